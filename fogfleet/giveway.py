"""Giving way: a game in which the second ship sees each choice of the first one.

A table has one list for each place of the first ship, this has one set of
pairs of fuel (see fogfleet/pairs.py) for each place of the second one: with
which the second ship keeps clear from that hour on. Pairs with which a ship
could not go on are never asked for.
"""

from fogfleet.errors import NoDriving, NotInPlay
from fogfleet.pairs import has_pair, sides
from fogfleet.reach import goings_on, states_along
from fogfleet.steps import step_table
from fogfleet.tables import need_rows


def last_table(chart, side, zones):
    """Return the table of the last hour."""
    table = [[0] * chart.size for _ in range(chart.size)]
    for place in zones[0]:
        for other in zones[1]:
            if place != other:
                table[place][other] = side.full
    return table


def before_answer(chart, side, steps, table):
    """Return the table as it is when the first ship has made its step, and the second one has not."""
    found = []
    for row in table:
        answers = []
        for moves in steps:
            pairs = 0
            for goal, lanes in moves:
                if row[goal]:
                    pairs |= side.before(chart.is_harbour(goal), lanes, row[goal])
            answers.append(pairs)
        found.append(answers)
    return found


def before_choice(chart, side, moves, needs, column):
    """Return the pairs with which the second ship has an answer to each step of the first one.

    `moves` are those of the first ship, `needs` its needs after them, and
    `column` has for each place that it may go to the pairs with which the
    second ship has an answer.
    """
    kept = side.full
    for goal, lanes in moves:
        if needs[goal] is None:
            continue
        harbour = chart.is_harbour(goal)
        least = lanes if harbour else lanes + needs[goal]
        kept &= side.below(least) | side.before(harbour, lanes, column[goal])
    return kept


def table_before(chart, pair, zones, steps, needs, table):
    """Return the table of the hour before a table; zones and steps are its own.

    `pair` has the sides of the ships, `needs` the needs of the first ship
    after its step.
    """
    answers = before_answer(chart, pair[1], steps[1], table)
    columns = [[row[place] for row in answers] for place in range(chart.size)]
    found = [[0] * chart.size for _ in range(chart.size)]
    for place in zones[0]:
        for other in zones[1]:
            if place != other:
                moves = steps[0][place]
                found[place][other] = before_choice(chart, pair[0], moves, needs, columns[other])
    return found


class GiveWay:
    """The game of two ships, which never changes once it is made."""

    def __init__(self, chart, first, first_corridor, second, second_corridor):
        self._chart = chart
        self._ships = (first, second)
        corridors = (first_corridor, second_corridor)
        self._hours = len(first_corridor)
        steps = [step_table(chart, ship, self._hours - 1) for ship in self._ships]
        self._needs = []
        for number in range(2):
            self._needs.append(need_rows(chart, self._ships[number], corridors[number], steps[number]))
            if not self._choices(number, []):
                raise NoDriving(number)
        self._tables = self._clear_tables(corridors, steps)
        answers = self._choices(1, [])
        self.keeps_clear = all([self._has_answer(0, state, answers) for state in self._choices(0, [])])

    def _clear_tables(self, corridors, steps):
        """Return the table of each hour."""
        pair = sides(self._ships[0], self._ships[1])
        last = self._hours - 1
        tables = [last_table(self._chart, pair[0], [corridor[last] for corridor in corridors])]
        for hour in reversed(range(last)):
            zones = [corridor[hour] for corridor in corridors]
            now = [table[hour] for table in steps]
            needs = self._needs[0][hour + 1]
            tables.append(table_before(self._chart, pair, zones, now, needs, tables[-1]))
        return tables[::-1]

    def _choices(self, number, states):
        """Return the states that a ship can choose to go on with."""
        return goings_on(self._chart, self._ships[number], self._needs[number], states)

    def _is_clear(self, hour, state, other):
        """Tell whether the second ship keeps clear from these states of both ships on."""
        return has_pair(self._tables[hour][state[0]][other[0]], state[1], other[1])

    def _has_answer(self, hour, state, answers):
        """Tell whether the second ship keeps clear with one of these answers to the state."""
        return any([self._is_clear(hour, state, other) for other in answers])

    def _states(self, number, places):
        """Return the states of the places of a ship, or None if they are no beginning."""
        return states_along(self._chart, self._ships[number], self._needs[number], places)

    def __call__(self, first_places, second_places):
        """Return the next place of the ship that reaches its aim whatever the other one does."""
        first = self._states(0, first_places)
        if first is None:
            raise NotInPlay("first")
        second = self._states(1, second_places)
        if second is None:
            raise NotInPlay("second")
        lead = 1 if self.keeps_clear else 0
        if len(first) - len(second) != lead or len(second) == self._hours:
            raise NotInPlay("lengths")
        if any([place == other for place, other in zip(first_places, second_places)]):
            raise NotInPlay("met")
        return self._dodge(first, second) if self.keeps_clear else self._chase(first, second)

    def _dodge(self, first, second):
        """Return a place with which the second ship keeps clear, if there is one."""
        choices = self._choices(1, second)
        for state in choices:
            if self._is_clear(len(second), first[-1], state):
                return state[0]
        return choices[0][0]

    def _chase(self, first, second):
        """Return a place to which the second ship has no answer, if there is one."""
        choices = self._choices(0, first)
        answers = self._choices(1, second)
        for state in choices:
            if not self._has_answer(len(first), state, answers):
                return state[0]
        return choices[0][0]


def who_gives_way(chart, first, first_corridor, second, second_corridor):
    """Return whether the second ship can keep clear of the first one, and the first of the second."""
    game = GiveWay(chart, first, first_corridor, second, second_corridor)
    exchanged = GiveWay(chart, second, second_corridor, first, first_corridor)
    return (game.keeps_clear, exchanged.keeps_clear)
