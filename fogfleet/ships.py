"""Ships and the steps that they can make in an hour."""

from fogfleet.errors import InvalidShip
from fogfleet.ways import deep_places

GREATEST_DRAUGHT = 99
GREATEST_SPEED = 3
GREATEST_TANK = 8


def wrong_part_of_ship(draught, slow, fast, tank, fuel):
    """Return the name of the first part of a ship that is wrong, or None."""
    if not 0 <= draught <= GREATEST_DRAUGHT:
        return "draught"
    if not 0 <= slow <= fast <= GREATEST_SPEED:
        return "speeds"
    if not 0 <= tank <= GREATEST_TANK:
        return "tank"
    if not 0 <= fuel <= tank:
        return "fuel"
    return None


class Ship:
    """A ship, which never changes once it is made."""

    def __init__(self, draught, *, slow=0, fast=1, tank=8, fuel=None):
        if fuel is None:
            fuel = tank
        part = wrong_part_of_ship(draught, slow, fast, tank, fuel)
        if part is not None:
            raise InvalidShip(part)
        self.draught = draught
        self.slow = slow
        self.fast = fast
        self.tank = tank
        self.fuel = fuel


def one_lane_on(chart, deep, places):
    """Return the zone of the places that one lane between deep places leads to."""
    found = []
    for goal in range(chart.size):
        beside = chart.neighbours(goal)
        if deep[goal] and any([deep[place] and place in places for place in beside]):
            found.append(goal)
    return found


def moves(chart, ship, hour, start):
    """Return the tuples (goal, lanes) of all steps from start at the hour."""
    deep = deep_places(chart, ship.draught, hour)
    least = [None] * chart.size
    reached = [start]
    for lanes in range(ship.fast + 1):
        # Staying needs no water, so only what follows asks for deep places.
        if lanes > 0:
            reached = one_lane_on(chart, deep, reached)
        for goal in reached:
            if lanes >= ship.slow and least[goal] is None:
                least[goal] = lanes
    return [(goal, lanes) for goal, lanes in enumerate(least) if lanes is not None]


def step_lanes(chart, ship, hour, start, goal):
    """Return the least number of lanes of a step from start to goal, or None."""
    for reached, lanes in moves(chart, ship, hour, start):
        if reached == goal:
            return lanes
    return None
