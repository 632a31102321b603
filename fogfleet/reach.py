"""Beginnings of fitting drivings, the first driving, and the hours at which a zone is reached.

The helpers take `needs`, the need table of the corridor, and `states`, a list
with a tuple (place, fuel) for each hour of a beginning.
"""

from fogfleet.drivings import next_states
from fogfleet.errors import NoDriving
from fogfleet.tables import covered_zones, need_table, possible_places, rich_table, suffices


def goings_on(chart, ship, needs, states):
    """Return the states with which a beginning goes on, in ascending order of their places."""
    hour = len(states)
    if hour == len(needs):
        return []
    found = next_states(chart, ship, states)
    return [(place, fuel) for place, fuel in found if suffices(fuel, needs[hour][place])]


def states_along(chart, ship, needs, places):
    """Return the states of a list of places, or None if it is not a beginning."""
    states = []
    for place in places:
        chosen = [state for state in goings_on(chart, ship, needs, states) if state[0] == place]
        if not chosen:
            return None
        states.append(chosen[0])
    return states


def next_places(chart, ship, corridor, places):
    """Return the zone of the places with which the places are a longer beginning."""
    needs = need_table(chart, ship, corridor)
    states = states_along(chart, ship, needs, places)
    if states is None:
        return []
    return [place for place, fuel in goings_on(chart, ship, needs, states)]


def first_driving(chart, ship, corridor):
    """Return the first driving that fits, or None."""
    needs = need_table(chart, ship, corridor)
    states = []
    for _ in corridor:
        found = goings_on(chart, ship, needs, states)
        if not found:
            return None
        states.append(found[0])
    return [place for place, fuel in states]


def can_hour(zones, zone):
    """Return the least hour whose zone has a place in common with the zone, or None."""
    for hour, places in enumerate(zones):
        if any([place in zone for place in places]):
            return hour
    return None


def must_hour(chart, ship, corridor, zone):
    """Return the least hour by which every fitting driving was in the zone, or None."""
    # A driving that kept out of the zone so far may go on anywhere in the corridor.
    outside = [[place for place in places if place not in zone] for places in corridor]
    rich = rich_table(chart, ship, outside)
    for hour, places in enumerate(covered_zones(rich, need_table(chart, ship, corridor))):
        if not places:
            return hour
    return None


def reach_hours(chart, ship, corridor, zone):
    """Return the least hours at which a driving can be, and by which each must be, in the zone."""
    zones = possible_places(chart, ship, corridor)
    if not zones[0]:
        raise NoDriving(0)
    return (can_hour(zones, zone), must_hour(chart, ship, corridor, zone))
