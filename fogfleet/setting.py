"""The setting: what every agent knows."""

from fogfleet.agents import ship_number
from fogfleet.errors import InvalidSetting
from fogfleet.limits import GREATEST_HOUR, MOST_LETTERS, MOST_SHIPS
from fogfleet.reports import corridor_of


def right_look(chart, horizon, hour, zone):
    """Tell whether the hour is not after the horizon and the zone is on the chart."""
    return hour <= horizon and all([place < chart.size for place in zone])


def right_report(chart, horizon, ships, report):
    """Tell whether the report is about what the setting has."""
    return report.ship < len(ships) and right_look(chart, horizon, report.hour, report.zone)


def right_letter(chart, horizon, ships, letter):
    """Tell whether the letter and its hops are about what the setting has."""
    numbers = [ship_number(agent) for parent, agent, low, high in letter.hops]
    if not all([number is None or number < len(ships) for number in numbers]):
        return False
    return right_look(chart, horizon, letter.hour, letter.zone)


def wrong_part_of_setting(chart, horizon, ships, reports, letters):
    """Return the name of the first part of a setting that is wrong, or None."""
    if not 0 <= horizon <= GREATEST_HOUR:
        return "horizon"
    if not 1 <= len(ships) <= MOST_SHIPS:
        return "ships"
    if not all([right_report(chart, horizon, ships, report) for report in reports]):
        return "reports"
    if len(letters) > MOST_LETTERS:
        return "letters"
    if not all([right_letter(chart, horizon, ships, letter) for letter in letters]):
        return "letters"
    return None


class Setting:
    """A setting, which never changes once it is made."""

    def __init__(self, chart, horizon, ships, *, reports=(), letters=()):
        part = wrong_part_of_setting(chart, horizon, ships, reports, letters)
        if part is not None:
            raise InvalidSetting(part)
        self.chart = chart
        self.horizon = horizon
        self.ships = tuple(ships)
        self.reports = tuple(reports)
        self.letters = tuple(letters)

    def corridor(self, number):
        """Return the corridor that the reports leave to the ship with this number."""
        return corridor_of(self.chart, self.horizon, self.reports, number)
