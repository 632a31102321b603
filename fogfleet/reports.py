"""Reports of where ships were."""

from fogfleet.errors import InvalidReport
from fogfleet.limits import GREATEST_HOUR, GREATEST_WEIGHT, MOST_PLACES, MOST_SHIPS
from fogfleet.zones import right_zone


def wrong_part_of_report(ship, hour, zone, weight):
    """Return the name of the first part of a report that is wrong, or None."""
    if not 0 <= ship < MOST_SHIPS:
        return "ship"
    if not 0 <= hour <= GREATEST_HOUR:
        return "hour"
    if not right_zone(zone, MOST_PLACES):
        return "zone"
    if not 1 <= weight <= GREATEST_WEIGHT:
        return "weight"
    return None


class Report:
    """A report about a ship, which never changes once it is made."""

    def __init__(self, ship, hour, zone, *, weight=1, inside=True):
        part = wrong_part_of_report(ship, hour, zone, weight)
        if part is not None:
            raise InvalidReport(part)
        self.ship = ship
        self.hour = hour
        self.zone = tuple(sorted(zone))
        self.weight = weight
        self.inside = inside

    def allows(self, place):
        """Tell whether the report allows that the ship is at the place."""
        return (place in self.zone) == self.inside


def corridor_of(chart, horizon, reports, ship):
    """Return the corridor of the places that all reports about the ship allow."""
    corridor = [list(range(chart.size)) for _ in range(horizon + 1)]
    for report in reports:
        if report.ship == ship and report.hour <= horizon:
            places = corridor[report.hour]
            corridor[report.hour] = [place for place in places if report.allows(place)]
    return corridor


def unmet(reports, ship, driving):
    """Return the indexes of the reports about the ship that the driving does not meet."""
    found = []
    for index, report in enumerate(reports):
        if report.ship == ship and report.hour < len(driving):
            if not report.allows(driving[report.hour]):
                found.append(index)
    return found
