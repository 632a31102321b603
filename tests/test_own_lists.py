"""Points 4 and 5: what callers pass and get stays apart from what the program keeps.

The same is tried for all calls of drivings, tables, reach, numbering, lights and telling.
"""

import copy
import unittest

from fogfleet import errors
from fogfleet.chart import Chart
from fogfleet.drivings import fits, fuel_along
from fogfleet.errors import DoesNotFit, FleetError, InvalidLight, NoDriving, NoSuchNumber
from fogfleet.lights import Light, flashes, sight_zone
from fogfleet.numbering import count_drivings, driving_at, number_of
from fogfleet.reach import first_driving, next_places, reach_hours
from fogfleet.ships import Ship
from fogfleet.tables import need_table, possible_places, rich_table
from fogfleet.telling import agreeing_shifts, certain_light, readings, telling_length
from tests.helpers import all_places, full_chart, lists_in, spoil

CHART = Chart([5, 3, 8, 5], [(1, 0), (1, 2), (2, 3)], tide=(0, 2), harbours=(2, 0))
SHIP = Ship(4, fast=2, tank=3, fuel=2)
CORRIDOR = [[3, 0], [0, 1, 3], (3, 1, 0, 2), [2, 1]]
DRIVING = [0, 0, 1, 1]
LIGHT = Light(1, "*..", reach=2)
OTHER = Light(2, "*.")

# Each call with what is passed to it.
CALLS = [
    (fuel_along, [CHART, SHIP, DRIVING]),
    (fits, [CHART, SHIP, CORRIDOR, DRIVING]),
    (rich_table, [CHART, SHIP, CORRIDOR]),
    (need_table, [CHART, SHIP, CORRIDOR]),
    (possible_places, [CHART, SHIP, CORRIDOR]),
    (next_places, [CHART, SHIP, CORRIDOR, [0, 0]]),
    (next_places, [CHART, SHIP, CORRIDOR, []]),
    (first_driving, [CHART, SHIP, CORRIDOR]),
    (reach_hours, [CHART, SHIP, CORRIDOR, [1, 0]]),
    (count_drivings, [CHART, SHIP, CORRIDOR]),
    (driving_at, [CHART, SHIP, CORRIDOR, 1]),
    (number_of, [CHART, SHIP, CORRIDOR, DRIVING]),
    (flashes, [LIGHT, 5, 7]),
    (sight_zone, [CHART, LIGHT]),
    (agreeing_shifts, [LIGHT, OTHER, 3]),
    (telling_length, [LIGHT, OTHER]),
    (readings, [[LIGHT, OTHER, LIGHT], "*."]),
    (certain_light, [[LIGHT, OTHER], "*.*"]),
]

# Each call that is refused, with its error.
REFUSALS = [
    (NoDriving, reach_hours, [CHART, SHIP, [[3], [0]], [1]]),
    (NoSuchNumber, driving_at, [CHART, SHIP, CORRIDOR, 10 ** 6]),
    (DoesNotFit, number_of, [CHART, SHIP, CORRIDOR, [0, 0, 1]]),
    (InvalidLight, Light, [12, "*"]),
]


def copied(arguments):
    """The arguments with new lists, but with the same objects."""
    found = []
    for value in arguments:
        if isinstance(value, (Chart, Ship, Light)):
            found.append(value)
        else:
            found.append([copied([item])[0] for item in value] if isinstance(value, list) else value)
    return found


def told(value):
    """All that can be read off a value, without sharing a list with it."""
    if isinstance(value, (Chart, Ship, Light)):
        return copy.deepcopy(vars(value))
    if isinstance(value, (list, tuple)):
        return (isinstance(value, list), [told(item) for item in value])
    return value


class OwnListsTest(unittest.TestCase):
    def test_no_function_changes_its_arguments(self):
        for function, arguments in CALLS:
            passed = copied(arguments)
            before = told(passed)
            function(*passed)
            self.assertEqual(told(passed), before, function)

    def test_a_refused_call_changes_nothing(self):
        for kind, function, arguments in REFUSALS:
            passed = copied(arguments)
            before = told(passed)
            self.assertRaises(kind, function, *passed)
            self.assertEqual(told(passed), before, function)

    def test_a_caller_may_change_what_was_returned(self):
        for function, arguments in CALLS:
            answer = function(*copied(arguments))
            before = copy.deepcopy(answer)
            spoil(answer)
            self.assertEqual(function(*copied(arguments)), before, function)

    def test_an_answer_shares_no_list_with_what_was_passed(self):
        for function, arguments in CALLS:
            passed = copied(arguments)
            answer = function(*passed)
            given = {id(found) for found in lists_in(passed)}
            self.assertFalse([found for found in lists_in(answer) if id(found) in given], function)

    def test_a_caller_may_change_what_it_passed(self):
        for function, arguments in CALLS:
            passed = copied(arguments)
            answer = function(*passed)
            before = copy.deepcopy(answer)
            for found in lists_in(passed):
                found.clear()
            self.assertEqual(answer, before, function)
            self.assertEqual(function(*copied(arguments)), before, function)

    def test_a_changed_list_is_looked_at_again(self):
        corridor, driving = copied([CORRIDOR, DRIVING])
        self.assertTrue(fits(CHART, SHIP, corridor, driving))
        corridor[3].remove(1)
        self.assertFalse(fits(CHART, SHIP, corridor, driving))
        self.assertEqual(possible_places(CHART, SHIP, corridor)[3], [2])
        self.assertIsNone(rich_table(CHART, SHIP, corridor)[3][1])
        self.assertIsNone(need_table(CHART, SHIP, corridor)[3][1])
        self.assertEqual(count_drivings(CHART, SHIP, corridor),
                         count_drivings(CHART, SHIP, CORRIDOR[:3] + [[2]]))
        driving[3] = 2
        self.assertEqual(fuel_along(CHART, SHIP, driving), fuel_along(CHART, SHIP, [0, 0, 1, 2]))
        lights = [LIGHT]
        self.assertEqual(certain_light(lights, "*."), 0)
        lights.append(OTHER)
        self.assertIsNone(certain_light(lights, "*."))

    def test_no_list_occurs_twice_within_an_answer(self):
        for function, arguments in CALLS:
            self.check_different_lists(function(*copied(arguments)))

    def test_equal_rows_and_zones_are_different_lists(self):
        chart = full_chart(harbours=range(12))
        zone = list(range(12))
        for corridor in ([zone] * 25, [[]] * 25, all_places(chart, 25)):
            for function in (rich_table, need_table, possible_places):
                answer = function(chart, Ship(0), corridor)
                self.assertEqual(answer[1:], answer[:-1])
                self.check_different_lists(answer)
                self.assertFalse([row for row in answer if row is zone])

    def check_different_lists(self, answer):
        found = lists_in(answer)
        self.assertEqual(len({id(row) for row in found}), len(found))

    def test_answers_are_of_the_kinds_that_the_document_names(self):
        kinds = {fuel_along: list, fits: bool, rich_table: list, need_table: list,
                 possible_places: list, next_places: list, first_driving: list,
                 reach_hours: tuple, count_drivings: int, driving_at: list, number_of: int,
                 flashes: str, sight_zone: list, agreeing_shifts: tuple, telling_length: int,
                 readings: list, certain_light: int}
        for function, arguments in CALLS:
            self.assertIs(type(function(*copied(arguments))), kinds[function], function)
        for function in (rich_table, need_table, possible_places):
            for row in function(CHART, SHIP, copied([CORRIDOR])[0]):
                self.assertIs(type(row), list)
        for row in readings([LIGHT], "*"):
            self.assertIs(type(row), tuple)


class ErrorsTest(unittest.TestCase):
    def test_each_error_is_a_fleet_error_and_of_no_other_class(self):
        classes = [kind for kind in vars(errors).values() if isinstance(kind, type)]
        for kind, function, arguments in REFUSALS:
            with self.assertRaises(ValueError) as caught:
                function(*copied(arguments))
            error = caught.exception
            self.assertIs(type(error), kind)
            self.assertEqual([other for other in classes if isinstance(error, other)],
                             [other for other in classes if other in (FleetError, kind)])


if __name__ == "__main__":
    unittest.main()
