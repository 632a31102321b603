"""The outcomes of a ship: its drivings in a setting, and what the letters say about them."""

from fogfleet.cells import gain_table, later_cells, reached_cells
from fogfleet.drivings import first_fuel, fuel_after
from fogfleet.rows import true_sets
from fogfleet.steps import step_table
from fogfleet.tables import covered_zones, need_rows, next_rich_row


def last_cells(chart, ship, zone):
    """Return the cells of the last hour of a corridor: there only the row of no answer is left."""
    return [[1 if place in zone else 0] * (ship.tank + 1) for place in range(chart.size)]


def union(sets):
    """Return the set of the rows that belong to one of the sets."""
    found = 0
    for rows in sets:
        found |= rows
    return found


class Outcomes:
    """The fitting drivings of a ship with their rows of answers."""

    def __init__(self, setting, number):
        self.chart = setting.chart
        self.ship = setting.ships[number]
        self.letters = setting.letters
        self.horizon = setting.horizon
        self.allowed = setting.corridor(number)
        self.trues = true_sets(len(setting.letters))
        self.steps = step_table(self.chart, self.ship, self.horizon)
        self.gains = gain_table(self.chart, self.letters, self.horizon + 1)
        last = last_cells(self.chart, self.ship, self.allowed[-1])
        self.later = later_cells(self.chart, self.ship, self.allowed, self.steps, self.gains, last)
        # These tables are made when they are asked for first.
        self._reached = None
        self._needs = None
        self._passed = None

    def reached(self):
        """Return for each hour the cells of the answers up to it."""
        if self._reached is None:
            self._reached = reached_cells(self.chart, self.ship, self.allowed, self.steps, self.gains)
        return self._reached

    def needs(self):
        """Return the need table of the allowed zones."""
        if self._needs is None:
            self._needs = need_rows(self.chart, self.ship, self.allowed, self.steps)
        return self._needs

    def passed(self):
        """Return for each hour and place the rows of the drivings that are there at that hour."""
        if self._passed is None:
            places = range(self.chart.size)
            self._passed = []
            for hour in range(self.horizon + 1):
                self._passed.append([union(self.whole_rows(hour, place)) for place in places])
        return self._passed

    def whole_rows(self, hour, place):
        """Return for each fuel the rows of the drivings that have it at the place at the hour.

        The letters of one side have no bits on the other one. So no sum of a
        row so far and a later row occurs twice, and a product of sets has all.
        """
        pairs = zip(self.reached()[hour][place], self.later[hour][place])
        return [before * after for before, after in pairs]

    def all_rows(self):
        """Return the rows of all fitting drivings."""
        found = 0
        for place in self.allowed[0]:
            fuel = first_fuel(self.chart, self.ship, place)
            found |= self.later[0][place][fuel] << self.gains[0][place]
        return found

    def row_of(self, places):
        """Return the row in which the letters have answered by the end of the places."""
        return sum([self.gains[hour][place] for hour, place in enumerate(places)])

    def fuel_at_end(self, places):
        """Return the fuel after going through the places from hour 0 on, or None."""
        fuel = None
        for hour, place in enumerate(places):
            if place not in self.allowed[hour]:
                return None
            if hour == 0:
                fuel = first_fuel(self.chart, self.ship, place)
                continue
            lanes = dict(self.steps[hour - 1][places[hour - 1]]).get(place)
            if lanes is None or lanes > fuel:
                return None
            fuel = fuel_after(self.chart, self.ship, fuel, place, lanes)
        return fuel

    def zones_after(self, hour, fuels):
        """Return the zones of the later hours, given the greatest fuel at each place at the hour."""
        rich = [fuels]
        for now in range(hour, self.horizon):
            zone = self.allowed[now + 1]
            rich.append(next_rich_row(self.chart, self.ship, zone, self.steps[now], rich[-1]))
        return covered_zones(rich[1:], self.needs()[hour + 1:])
