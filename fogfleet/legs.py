"""Legs: passages along a way, and how many hours they can take."""

from fogfleet.errors import NoWay
from fogfleet.ways import lanes_to


def rounded_up(length, speed):
    """Return the quotient of the length and the speed, rounded up."""
    return (length + speed - 1) // speed


def leg_hours(length, slow, fast):
    """Return the least and the greatest number of hours that the leg can take."""
    return (rounded_up(length, fast), rounded_up(length, slow))


def can_last(rest, slow, fast, hours):
    """Tell whether the ship can need exactly so many hours for the rest of a leg."""
    if hours == 0:
        return rest <= 0
    return slow * (hours - 1) < rest <= fast * hours


def leg_speeds(length, slow, fast, hours):
    """Return the least list of speeds with which the leg takes exactly so many hours, or None."""
    if not can_last(length, slow, fast, hours):
        return None
    speeds = []
    rest = length
    for left in reversed(range(hours)):
        # Less is left after a greater speed, so only a slow one can leave too much.
        speed = slow
        while not can_last(rest - speed, slow, fast, left):
            speed += 1
        speeds.append(speed)
        rest -= speed
    return speeds


def leg_driving(way, speeds):
    """Return the places along the way at the hours 0 to the number of speeds."""
    places = [way[0]]
    lanes = 0
    for speed in speeds:
        lanes = min(lanes + speed, len(way) - 1)
        places.append(way[lanes])
    return places


def voyage(chart, ship, stops):
    """Return the least and the greatest number of hours of each leg between neighbouring stops."""
    deep = [chart.low_water(place) >= ship.draught for place in range(chart.size)]
    legs = []
    for leg, goal in enumerate(stops[1:]):
        lanes = lanes_to(chart, goal, deep)[stops[leg]]
        if lanes is None:
            raise NoWay(leg)
        legs.append(leg_hours(lanes, ship.slow, ship.fast))
    return legs
