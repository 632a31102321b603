"""Points 4 and 5: what callers pass and get stays apart from what the program keeps."""

import copy
import inspect
import unittest

from fogfleet import errors
from fogfleet.chains import earliest_chain, latest_chain
from fogfleet.chart import Chart
from fogfleet.common import common_run
from fogfleet.desk import Desk
from fogfleet.disbelief import strength
from fogfleet.drivings import fits, fuel_along
from fogfleet.errors import FleetError
from fogfleet.gates import Gate
from fogfleet.giveway import GiveWay
from fogfleet.knowing import counter, ends, sure
from fogfleet.leastletters import parting_world
from fogfleet.letters import Letter
from fogfleet.lights import Light
from fogfleet.meeting import meeting_hours, meeting_verdict, meetings
from fogfleet.numbering import count_drivings
from fogfleet.reports import Report, corridor_of, unmet
from fogfleet.runs import earliest_run, held, latest_run
from fogfleet.setting import Setting
from fogfleet.shared import common_counter, commonly
from fogfleet.ships import Ship
from fogfleet.sightings import flash_reports
from fogfleet.tables import need_table, possible_places, rich_table
from fogfleet.telling import certain_light, readings
from tests.calls import CALLS, CHART, CORRIDOR, DRIVING, LIGHT, OTHER, POST, REFUSALS, REPORTS, RUN, SHIP
from tests.helpers import all_places, full_chart, line_chart, lists_in, spoil
from tests.test_interface import INTERFACE

OBJECTS = (Chart, Ship, Light, Report, Letter, Setting, GiveWay, Gate, Desk)


def copied(arguments):
    """The arguments with new lists, but with the same objects."""
    found = []
    for value in arguments:
        if isinstance(value, (list, tuple)):
            found.append(type(value)(copied(value)))
        else:
            found.append(value)
    return found


def told(value):
    """All that can be read off a value, without sharing a list with it."""
    if isinstance(value, OBJECTS):
        return copy.deepcopy({name: told(part) for name, part in vars(value).items()})
    if isinstance(value, (list, tuple)):
        return (isinstance(value, list), [told(item) for item in value])
    return value


class OwnListsTest(unittest.TestCase):
    def test_each_function_of_the_interface_is_tried(self):
        tried = {(function.__module__, function.__name__) for function, _, _ in CALLS}
        for file in list(INTERFACE)[list(INTERFACE).index("drivings"):]:
            for name in INTERFACE[file]:
                if name != "Light":
                    self.assertIn((f"fogfleet.{file}", name), tried)

    def test_no_function_changes_its_arguments(self):
        for function, arguments, _ in CALLS:
            passed = copied(arguments)
            before = told(passed)
            function(*passed)
            self.assertEqual(told(passed), before, function)

    def test_a_refused_call_changes_nothing(self):
        for kind, function, arguments in REFUSALS:
            passed = copied(arguments)
            before = told(passed)
            self.assertRaises(kind, function, *passed)
            self.assertEqual(told(passed), before, function)

    def test_a_caller_may_change_what_was_returned(self):
        for function, arguments, _ in CALLS:
            answer = function(*copied(arguments))
            before = told(answer)
            spoil(answer)
            self.assertEqual(told(function(*copied(arguments))), before, function)

    def test_an_answer_shares_no_list_with_what_was_passed(self):
        for function, arguments, _ in CALLS:
            passed = copied(arguments)
            answer = function(*passed)
            given = {id(found) for found in lists_in(passed)}
            self.assertFalse([found for found in lists_in(answer) if id(found) in given], function)

    def test_a_caller_may_change_what_it_passed(self):
        for function, arguments, _ in CALLS:
            passed = copied(arguments)
            answer = function(*passed)
            before = told(answer)
            for found in lists_in(passed):
                found.clear()
            self.assertEqual(told(answer), before, function)
            self.assertEqual(told(function(*copied(arguments))), before, function)

    def test_a_changed_list_is_looked_at_again(self):
        corridor, driving = copied([CORRIDOR, DRIVING])
        self.assertTrue(fits(CHART, SHIP, corridor, driving))
        corridor[3].remove(1)
        self.assertFalse(fits(CHART, SHIP, corridor, driving))
        self.assertEqual(possible_places(CHART, SHIP, corridor)[3], [2])
        self.assertIsNone(rich_table(CHART, SHIP, corridor)[3][1])
        self.assertIsNone(need_table(CHART, SHIP, corridor)[3][1])
        self.assertEqual(count_drivings(CHART, SHIP, corridor),
                         count_drivings(CHART, SHIP, CORRIDOR[:3] + [[2]]))
        driving[3] = 2
        self.assertEqual(fuel_along(CHART, SHIP, driving), fuel_along(CHART, SHIP, [0, 0, 1, 2]))
        lights = [LIGHT]
        self.assertEqual(certain_light(lights, "*."), 0)
        lights.append(OTHER)
        self.assertIsNone(certain_light(lights, "*."))

    def test_changed_lists_of_reports_and_letters_are_looked_at_again(self):
        reports = list(REPORTS)
        reports[0] = Report(0, 0, [])
        self.assertEqual(corridor_of(CHART, 4, reports, 0)[0], [])
        self.assertEqual(unmet(reports, 0, DRIVING), [0, 2, 4])
        self.assertEqual(unmet(REPORTS, 0, DRIVING), [2, 4])
        post, run = list(POST), copied([RUN])[0]
        del post[1:], run[1:]
        self.assertEqual(earliest_run(post), [[2, 3, 3]])
        self.assertEqual(held(post, run, "k0", 5), [0])
        run[0][2] = 6
        self.assertEqual(held(post, run, "k0", 5), [])

    def test_no_list_occurs_twice_within_an_answer(self):
        for function, arguments, _ in CALLS:
            self.check_different_lists(function(*copied(arguments)))

    def test_equal_rows_and_zones_are_different_lists(self):
        chart = full_chart(harbours=range(12))
        zone = list(range(12))
        for corridor in ([zone] * 25, [[]] * 25, all_places(chart, 25)):
            for function in (rich_table, need_table, possible_places):
                answer = function(chart, Ship(0), corridor)
                self.assertEqual(answer[1:], answer[:-1])
                self.check_different_lists(answer)
                self.assertFalse([row for row in answer if row is zone])

    def test_equal_zones_floors_and_runs_are_different_lists(self):
        chart = full_chart(harbours=range(12))
        for reports in ([], [Report(0, hour, []) for hour in range(25)]):
            self.check_different_lists(corridor_of(chart, 24, reports, 0))
            for zone in ([], list(range(11))):
                self.check_different_lists(strength(chart, Ship(0), 24, reports, 0, 24, zone))
        chart = line_chart(2)
        floors = strength(chart, Ship(0, fast=0, tank=0), 2, [], 0, 0, [])[3]
        self.assertEqual(floors, [[[0], [0]]] * 3)
        self.check_different_lists(floors)
        letter = Letter(3, [], "k0", [(0, "s0", 1, 1)])
        for function in (earliest_run, latest_run):
            answer = function([letter] * 6)
            self.assertEqual(answer, [[3, 4]] * 6)
            self.check_different_lists(answer)

    def test_runs_and_worlds_that_are_alike_are_different_lists(self):
        letter = Letter(3, [], "k0", [(0, "s0", 1, 1)])
        post, run = [letter] * 6, [[3, 4]] * 6
        for function in (latest_chain, earliest_chain):
            answer = function(post, run, [("k0", 5)] * 6)
            self.assertEqual(answer, [run] * 6)
            self.check_different_lists(answer)
        self.check_different_lists(common_run(post, run, [], 5))
        self.check_different_lists(common_run(post, run, ["k0"], 5))
        still = Ship(0, fast=0)
        setting = Setting(line_chart(2), 2, [still] * 4, letters=[Letter(2, [0], "k0", [])] * 2)
        view = ("k0", 0, (), (), None)
        for seen in (view, ("s0", 1, (), (), (0, 0))):
            for fact in (("by", 0, 0, 1), ("out", 1, 0, (0,)), ("in", 1, 0, ()), ("together", 1, 2, 0),
                         ("apart", 1, 2)):
                for chain in ([], [("k0", 0)] * 6, [("s1", 2)] * 6, [("s0", 0), ("k1", 1)]):
                    answer = counter(setting, seen, chain, fact)
                    self.assertEqual(len(answer), len(chain) + 1)
                    self.check_different_lists(answer)
            self.check_different_lists(ends(setting, seen, [("s0", 1)], 0))

    def test_what_agents_have_in_common_and_drivings_of_pairs_are_different_lists(self):
        still = Ship(0, fast=0)
        letters = [Letter(2, [0], "k0", [(0, "k1", 0, 1), (1, "k0", 0, 1)])] * 2
        setting = Setting(line_chart(2), 2, [still] * 4, letters=letters)
        world = ([[0, 0, 0]] * 4, [[2, 2, 2]] * 2)
        for fact in (("by", 0, 2, 2), ("out", 1, 0, (1,)), ("apart", 2, 3), ("together", 2, 3, 1)):
            for agents in ([], ["k0", "k1"], ["k7"], ["s2", "s0"]):
                self.check_different_lists(common_counter(setting, world, agents, 2, fact))
        found = common_counter(setting, world, ["k0", "k1"], 2, ("by", 0, 2, 2))
        self.assertGreater(len(found[0]), 0)
        self.check_different_lists(found)
        self.check_different_lists(parting_world(setting, world, "k7", 2, [], ("in", 0, 0, (0,))))
        chart = line_chart(3)
        for zones in ([[1]] * 4, [[1, 2]] * 4, [[0, 2], [0, 1, 2], [0, 1, 2]]):
            for other in (zones, [[0]] * len(zones)):
                for function in (meetings, meeting_verdict):
                    self.check_different_lists(function(chart, Ship(0), zones, Ship(0), other))

    def test_changed_lists_for_pairs_and_in_common_are_looked_at_again(self):
        chart, zones, agents = line_chart(3), [[0, 1], [0, 1]], ["s0"]
        pair = [chart, Ship(0), zones, Ship(0), [[2], [1, 2]]]
        self.assertEqual(meetings(*pair), [[], [1]])
        zones[1].remove(1)
        self.assertEqual(meetings(*pair), [[], []])
        self.assertEqual(meeting_hours(*pair), (None, None))
        setting = Setting(chart, 1, [Ship(0)])
        self.assertTrue(commonly(setting, ([[0, 1]], []), agents, 1, ("in", 0, 1, (1,))))
        agents.append("k0")
        self.assertFalse(commonly(setting, ([[0, 1]], []), agents, 1, ("in", 0, 1, (1,))))

    def test_changed_lists_for_worlds_are_looked_at_again(self):
        setting = Setting(line_chart(2), 1, [Ship(0)])
        view, chain = ("s0", 0, (), (), (0,)), []
        self.assertTrue(sure(setting, view, chain, ("in", 0, 0, (0,))))
        chain.append(("k0", 0))
        self.assertFalse(sure(setting, view, chain, ("in", 0, 0, (0,))))

    def check_different_lists(self, answer):
        found = lists_in(answer)
        self.assertEqual(len({id(row) for row in found}), len(found))

    def test_answers_are_of_the_kinds_that_the_document_names(self):
        for function, arguments, kind in CALLS:
            self.assertIs(type(function(*copied(arguments))), kind, function)
        for function in (rich_table, need_table, possible_places):
            for row in function(CHART, SHIP, copied([CORRIDOR])[0]):
                self.assertIs(type(row), list)
        for row in readings([LIGHT], "*"):
            self.assertIs(type(row), tuple)
        for report in flash_reports(CHART, [LIGHT], 0, 0, "*."):
            self.assertIs(type(report), Report)
        cost, indexes, driving, floors = strength(CHART, SHIP, 3, REPORTS, 0, 1, [2, 1])
        self.assertEqual([type(part) for part in (cost, indexes, driving, floors)],
                         [int, list, list, list])


class ErrorsTest(unittest.TestCase):
    def test_each_error_is_a_fleet_error_and_of_no_other_class(self):
        classes = [kind for kind in vars(errors).values() if inspect.isclass(kind)]
        for kind, function, arguments in REFUSALS:
            with self.assertRaises(ValueError) as caught:
                function(*copied(arguments))
            error = caught.exception
            self.assertIs(type(error), kind)
            self.assertEqual([other for other in classes if isinstance(error, other)],
                             [other for other in classes if other in (FleetError, kind)])


if __name__ == "__main__":
    unittest.main()
