"""Parting: two ships that keep from meeting each other as long as they can.

A table has one list for each place of the first ship, this has one set of
pairs of fuel (see fogfleet/pairs.py) for each place of the second one: what
both can have there without having met. With more fuel a ship can do all that
it can do with less, so a set has with a pair all those that have less.
"""

from fogfleet.drivings import first_fuel
from fogfleet.pairs import has_pair, pairs_up_to, sides
from fogfleet.steps import step_table


def parted(table):
    """Return the table without the pairs of ships that meet."""
    rows = []
    for place, row in enumerate(table):
        rows.append([0 if place == other else pairs for other, pairs in enumerate(row)])
    return rows


def turned(table):
    """Return the table with one list for each place of the second ship."""
    return [list(row) for row in zip(*table)]


def moved(chart, side, steps, zone, table):
    """Return the table after a step into the zone of the ship for whose places it has the lists."""
    found = [[0] * chart.size for _ in range(chart.size)]
    for place, row in enumerate(table):
        for goal, lanes in steps[place]:
            if goal not in zone:
                continue
            harbour = chart.is_harbour(goal)
            for other, pairs in enumerate(row):
                if pairs:
                    found[goal][other] |= side.after(harbour, lanes, pairs)
    return found


class Parting:
    """Two ships that can go through the hours of their corridors without meeting each other."""

    def __init__(self, chart, ships, corridors):
        self.chart = chart
        self.ships = ships
        self.steps = [step_table(chart, ship, len(corridors[0]) - 1) for ship in ships]
        self.tables = [self.first_table(corridors)]
        for hour in range(len(corridors[0]) - 1):
            self.tables.append(self.next_table(hour, corridors))

    def first_table(self, corridors):
        """Return the table of hour 0."""
        table = [[0] * self.chart.size for _ in range(self.chart.size)]
        for place in corridors[0][0]:
            fuel = first_fuel(self.chart, self.ships[0], place)
            for other in corridors[1][0]:
                table[place][other] = pairs_up_to(fuel, first_fuel(self.chart, self.ships[1], other))
        return parted(table)

    def next_table(self, hour, corridors):
        """Return the table of the hour after this hour."""
        table = self.tables[hour]
        for side, steps, corridor in zip(sides(*self.ships), self.steps, corridors):
            # After both turns the lists are for the places of the first ship again.
            table = turned(moved(self.chart, side, steps[hour], corridor[hour + 1], table))
        return parted(table)

    def wants(self, number, hour, goal, need):
        """Return the tuples (place, need) from which a ship comes to the goal with so much fuel."""
        found = []
        for place, row in enumerate(self.steps[number][hour]):
            lanes = dict(row).get(goal)
            if lanes is not None:
                found.append((place, lanes if self.chart.is_harbour(goal) else lanes + need))
        return found

    def pair_before(self, hour, pair):
        """Return for both ships a tuple (place, need) at the hour from which they come to the pair."""
        first, second = pair
        for place, need in self.wants(0, hour, first[0], first[1]):
            for other, other_need in self.wants(1, hour, second[0], second[1]):
                if has_pair(self.tables[hour][place][other], need, other_need):
                    return ((place, need), (other, other_need))
        return None

    def last_pair(self):
        """Return for both ships a tuple (place, need) of the last hour, or None."""
        for place, row in enumerate(self.tables[-1]):
            for other, pairs in enumerate(row):
                if pairs:
                    return ((place, 0), (other, 0))
        return None

    def parted_drivings(self):
        """Return two drivings that meet at no hour, or None."""
        last = self.last_pair()
        if last is None:
            return None
        pairs = [last]
        for hour in reversed(range(len(self.tables) - 1)):
            pairs.append(self.pair_before(hour, pairs[-1]))
        return ([first[0] for first, second in reversed(pairs)],
                [second[0] for first, second in reversed(pairs)])

    def all_met_by(self, hour, needs, other_needs):
        """Tell whether no two ships that can go on have parted up to the hour.

        The needs are the rows of the need tables for this hour.
        """
        for need, row in zip(needs, self.tables[hour]):
            for other_need, pairs in zip(other_needs, row):
                if need is not None and other_need is not None and has_pair(pairs, need, other_need):
                    return False
        return True
