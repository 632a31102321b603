"""Bundles: the fitting drivings that a ship may have after the links of a chain.

Both classes of bundles answer the same calls. `rows` returns the rows of
answers of the drivings (none if the bundle is empty), `zones` their places
at each hour, `count` how many they are, and `one_within` one of them that
fits a narrower corridor, if there is one. `after_own` and `after_other`
return the bundle after a link of the ship itself, and of another agent.
"""

from fogfleet.cells import gained, later_cells
from fogfleet.drivings import first_fuel, fuel_after, next_states
from fogfleet.numbering import count_table
from fogfleet.reach import first_driving, goings_on
from fogfleet.rows import has_row, members, widened
from fogfleet.tables import need_rows, suffices
from fogfleet.zones import narrowed


def beginning_with(corridor, places):
    """Return a corridor that keeps only these places at the first hours."""
    for hour, place in enumerate(places):
        corridor = narrowed(corridor, hour, [place], True)
    return corridor


def widest(outcomes, rows, letters):
    """Return the bundle after a link of another agent that holds the letters."""
    found = widened(rows, outcomes.trues, letters) & outcomes.all_rows()
    return Answered(outcomes, found, outcomes.horizon)


def ways_on(outcomes):
    """Return for each hour, place and amount of fuel in how many ways the ship can go on."""
    return count_table(outcomes.chart, outcomes.ship, outcomes.allowed)


def states_with(outcomes, row, table):
    """Return the states of a way through the hours of the table that has the row in its cells."""
    states = []
    rest = row
    for cells, gains in zip(table, outcomes.gains):
        found = next_states(outcomes.chart, outcomes.ship, states)
        right = [(place, fuel) for place, fuel in found if has_row(cells[place][fuel], rest - gains[place])]
        states.append(right[0])
        rest -= gains[right[0][0]]
    return states


def driving_with(outcomes, row):
    """Return a fitting driving with the row, which is that of one of them."""
    return [place for place, fuel in states_with(outcomes, row, outcomes.later)]


class Begun:
    """The bundle of the drivings that begin with given places (at least one)."""

    def __init__(self, outcomes, places):
        self.outcomes = outcomes
        self.known = list(places)
        self.hour = len(self.known) - 1

    def after_own(self, hour):
        """Return the bundle after a link of the ship itself at the hour."""
        return Begun(self.outcomes, self.known[:hour + 1])

    def after_other(self, letters):
        """Return the bundle after a link of another agent that holds the letters."""
        return widest(self.outcomes, self.rows(), letters)

    def rows(self):
        """Return the rows of the drivings."""
        fuel = self.outcomes.fuel_at_end(self.known)
        if fuel is None:
            return 0
        later = self.outcomes.later[self.hour][self.known[-1]][fuel]
        return later << self.outcomes.row_of(self.known)

    def zones(self):
        """Return the zones of the places of the drivings."""
        fuels = [None] * self.outcomes.chart.size
        fuels[self.known[-1]] = self.outcomes.fuel_at_end(self.known)
        return [[place] for place in self.known] + self.outcomes.zones_after(self.hour, fuels)

    def count(self):
        """Return how many drivings there are."""
        fuel = self.outcomes.fuel_at_end(self.known)
        return ways_on(self.outcomes)[self.hour][self.known[-1]][fuel]

    def one_within(self, corridor):
        """Return one of the drivings that fits the narrower corridor, if there is one."""
        chart, ship = self.outcomes.chart, self.outcomes.ship
        return first_driving(chart, ship, beginning_with(corridor, self.known))


class Answered:
    """The bundle of the drivings that have, up to an hour, the places of one with a given row."""

    def __init__(self, outcomes, given, hour):
        self.outcomes = outcomes
        self.given = given
        self.hour = hour

    def after_own(self, hour):
        """Return the bundle after a link of the ship itself at the hour."""
        return Answered(self.outcomes, self.given, min(self.hour, hour))

    def after_other(self, letters):
        """Return the bundle after a link of another agent that holds the letters."""
        return widest(self.outcomes, self.rows(), letters)

    def rows(self):
        """Return the rows of the drivings."""
        if self.hour == self.outcomes.horizon:
            return self.given
        found = 0
        reached = self.outcomes.reached()[self.hour]
        for place, row in enumerate(self.outcomes.later[self.hour]):
            for before, later in zip(reached[place], row):
                for member in members(before):
                    if self.given >> member & later:
                        found |= later << member
        return found

    def zones(self):
        """Return the zones of the places of the drivings."""
        zones = []
        for row in self.outcomes.passed()[:self.hour + 1]:
            zones.append([place for place, rows in enumerate(row) if rows & self.given])
        return zones + self.outcomes.zones_after(self.hour, self.greatest_fuels())

    def greatest_fuels(self):
        """Return for each place the greatest fuel that a driving has there at the hour, or None."""
        found = []
        for place in range(self.outcomes.chart.size):
            rows = self.outcomes.whole_rows(self.hour, place)
            fuels = [fuel for fuel, whole in enumerate(rows) if whole & self.given]
            found.append(max(fuels, default=None))
        return found

    def count(self):
        """Return how many drivings there are."""
        states = self.first_counts()
        for hour in range(self.hour):
            states = self.next_counts(hour, states)
        ways = ways_on(self.outcomes)[self.hour]
        return sum([many * ways[place][fuel] for (place, fuel, open_rows), many in states.items()])

    def first_counts(self):
        """Return the states at hour 0 with their counts.

        A state is a tuple (place, fuel, open_rows): the last are those rows
        of later answers with which the ship can go on and be one of the given.
        """
        states = {}
        outcomes = self.outcomes
        for place in outcomes.allowed[0]:
            fuel = first_fuel(outcomes.chart, outcomes.ship, place)
            open_rows = self.given >> outcomes.gains[0][place] & outcomes.later[0][place][fuel]
            if open_rows:
                states[(place, fuel, open_rows)] = 1
        return states

    def next_counts(self, hour, states):
        """Return the states at the hour after this hour with their counts."""
        found = {}
        outcomes = self.outcomes
        for (place, fuel, open_rows), many in states.items():
            for goal, lanes in outcomes.steps[hour][place]:
                if lanes > fuel:
                    continue
                left = fuel_after(outcomes.chart, outcomes.ship, fuel, goal, lanes)
                # Where the goal is not allowed there are no later rows.
                later = outcomes.later[hour + 1][goal][left]
                rest = open_rows >> outcomes.gains[hour + 1][goal] & later
                if rest:
                    state = (goal, left, rest)
                    found[state] = found.get(state, 0) + many
        return found

    def one_within(self, corridor):
        """Return one of the drivings that fits the narrower corridor, if there is one."""
        outcomes = self.outcomes
        chart, ship = outcomes.chart, outcomes.ship
        needs = need_rows(chart, ship, corridor, outcomes.steps)
        table = self.cells_within(corridor, needs)
        states = states_with(outcomes, self.row_within(table), table)
        while len(states) <= outcomes.horizon:
            states.append(goings_on(chart, ship, needs, states)[0])
        return [place for place, fuel in states]

    def cells_within(self, corridor, needs):
        """Return the cells of the later answers for the hours up to the hour of the bundle.

        The way up to this hour lies in the corridor, and can go on in it. The
        answers after this hour are those of any driving that goes on from there.
        """
        last = []
        for place, row in enumerate(self.outcomes.later[self.hour]):
            need = needs[self.hour][place]
            last.append([rows if suffices(fuel, need) else 0 for fuel, rows in enumerate(row)])
        chart, ship = self.outcomes.chart, self.outcomes.ship
        return later_cells(
            chart, ship, corridor[:self.hour + 1], self.outcomes.steps, self.outcomes.gains, last)

    def row_within(self, table):
        """Return one of the given rows that the cells have."""
        found = 0
        cells = gained(table[0], self.outcomes.gains[0])
        for place, fuel in next_states(self.outcomes.chart, self.outcomes.ship, []):
            found |= cells[place][fuel] & self.given
        return members(found)[0]
