"""Meetings of two ships that move independently of each other."""

from fogfleet.errors import NoDriving
from fogfleet.parting import Parting
from fogfleet.reach import first_driving
from fogfleet.tables import need_table, possible_places
from fogfleet.zones import narrowed


def common_zones(chart, ships, corridors):
    """Return for each hour the zone of the places at which both ships can be."""
    zones = []
    for number in range(2):
        zones.append(possible_places(chart, ships[number], corridors[number]))
        if not zones[-1][0]:
            raise NoDriving(number)
    return [[place for place in zone if place in other] for zone, other in zip(zones[0], zones[1])]


def drivings_to(chart, ships, corridors, hour, place):
    """Return a driving of each ship that is at the place at the hour."""
    return tuple([first_driving(chart, ship, narrowed(corridor, hour, [place], True))
                  for ship, corridor in zip(ships, corridors)])


def first_common_hour(zones):
    """Return the least hour whose zone has a place, or None."""
    for hour, zone in enumerate(zones):
        if zone:
            return hour
    return None


def meetings(chart, first, first_corridor, second, second_corridor):
    """Return for each hour the zone of the places at which both ships can be."""
    return common_zones(chart, (first, second), (first_corridor, second_corridor))


def meeting_verdict(chart, first, first_corridor, second, second_corridor):
    """Return whether the ships meet, with two drivings that meet and two that do not."""
    ships = (first, second)
    corridors = (first_corridor, second_corridor)
    zones = common_zones(chart, ships, corridors)
    hour = first_common_hour(zones)
    apart = Parting(chart, ships, corridors).parted_drivings()
    if hour is None:
        return ("never", None, apart)
    together = drivings_to(chart, ships, corridors, hour, zones[hour][0])
    return ("always" if apart is None else "open", together, apart)


def meeting_hours(chart, first, first_corridor, second, second_corridor):
    """Return the least hours at which the ships can meet, and by which they must have met."""
    ships = (first, second)
    corridors = (first_corridor, second_corridor)
    can = first_common_hour(common_zones(chart, ships, corridors))
    parting = Parting(chart, ships, corridors)
    tables = [need_table(chart, ship, corridor) for ship, corridor in zip(ships, corridors)]
    for hour, (needs, other_needs) in enumerate(zip(tables[0], tables[1])):
        if parting.all_met_by(hour, needs, other_needs):
            return (can, hour)
    return (can, None)
