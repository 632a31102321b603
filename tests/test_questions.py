"""Points 29 and 33: questions, and the look-outs that settle them."""

import itertools
import random
import unittest

from fogfleet.chart import Chart
from fogfleet.errors import NoDriving
from fogfleet.questions import settling, verdict
from fogfleet.ships import Ship
from tests.helpers import (all_places, fitting, full_chart, line_chart, random_case, split_drivings,
                           zones_of)

CASES = 250


def slow_verdict(drivings, hour, zone):
    supporting, opposing = split_drivings(drivings, hour, zone)
    word = "open" if supporting and opposing else "sure" if supporting else "never"
    return (word, list(supporting[0]) if supporting else None, list(opposing[0]) if opposing else None)


def slow_settling(drivings, hour, zone, after):
    """The best of all candidates, each described by what point 33 compares."""
    supporting, opposing = split_drivings(drivings, hour, zone)
    candidates = []
    for now in range(after, len(drivings[0])):
        yes = sorted({driving[now] for driving in supporting})
        no = sorted({driving[now] for driving in opposing})
        if not set(yes) & set(no):
            candidates.append((len(yes), now, 0, (now, yes, True)))
            candidates.append((len(no), now, 1, (now, no, False)))
    if not supporting or not opposing or not candidates:
        return None
    return min(candidates)[-1]


class VerdictTest(unittest.TestCase):
    def test_the_three_words(self):
        chart, ship = line_chart(4), Ship(0)
        corridor = [[0, 1], [0, 1, 2], [2, 3]]
        self.assertEqual(verdict(chart, ship, corridor, 1, [2]), ("open", [1, 2, 2], [0, 1, 2]))
        self.assertEqual(verdict(chart, ship, corridor, 1, [1, 2]), ("sure", [0, 1, 2], None))
        self.assertEqual(verdict(chart, ship, corridor, 1, [0, 3]), ("never", None, [0, 1, 2]))

    def test_the_empty_zone_and_all_places(self):
        chart, ship = line_chart(4), Ship(0)
        corridor = [[1], [0, 1, 2]]
        for hour in (0, 1):
            self.assertEqual(verdict(chart, ship, corridor, hour, []), ("never", None, [1, 0]))
            self.assertEqual(verdict(chart, ship, corridor, hour, ()), ("never", None, [1, 0]))
            self.assertEqual(verdict(chart, ship, corridor, hour, [3, 2, 1, 0]), ("sure", [1, 0], None))

    def test_the_zone_in_any_order(self):
        chart, ship = line_chart(5), Ship(0)
        corridor = [[4, 2], (3, 1, 2)]
        for zone in itertools.permutations([1, 3, 0]):
            for kind in (list, tuple):
                self.assertEqual(verdict(chart, ship, corridor, 1, kind(zone)), ("open", [2, 1], [2, 2]))

    def test_places_that_no_driving_reaches(self):
        # The corridor allows places 0 and 3 at hour 1, but no driving goes on from there.
        chart, ship = line_chart(5), Ship(0)
        corridor = [[1, 2], [0, 1, 2, 3], [1]]
        self.assertEqual(verdict(chart, ship, corridor, 1, [3]), ("never", None, [1, 0, 1]))
        self.assertEqual(verdict(chart, ship, [[2], [0, 1, 2, 3], [1]], 1, [1, 2]), ("sure", [2, 1, 1], None))
        self.assertEqual(verdict(chart, Ship(0, fuel=1), corridor, 1, [0]), ("never", None, [1, 1, 1]))

    def test_a_single_hour(self):
        chart, ship = line_chart(3), Ship(0)
        self.assertEqual(verdict(chart, ship, [[2, 1]], 0, [2]), ("open", [2], [1]))
        self.assertEqual(verdict(chart, ship, [[2]], 0, [2]), ("sure", [2], None))

    def test_the_first_and_the_last_hour(self):
        chart, ship = line_chart(3), Ship(0)
        corridor = all_places(chart, 25)
        self.assertEqual(verdict(chart, ship, corridor, 0, [2]), ("open", [2] + [1] + [0] * 23, [0] * 25))
        self.assertEqual(verdict(chart, ship, corridor, 24, [2]), ("open", [0] * 23 + [1, 2], [0] * 25))

    def test_no_driving_fits(self):
        chart = line_chart(4)
        for corridor in ([[]], [[0], [2]], [[0], [0], []], [[], [0], [0]]):
            for zone in ([], [0], [0, 1, 2, 3]):
                with self.assertRaises(NoDriving) as caught:
                    verdict(chart, Ship(0), corridor, 0, zone)
                self.assertEqual(caught.exception.ship, 0)

    def test_many_cases(self):
        words = set()
        for seed in range(CASES):
            chart, ship, corridor = random_case(seed)
            drivings = fitting(chart, ship, corridor)
            for hour, zone in itertools.product(range(len(corridor)), zones_of(chart.size)):
                if drivings:
                    expected = slow_verdict(drivings, hour, zone)
                    self.assertEqual(verdict(chart, ship, corridor, hour, zone), expected)
                    words.add(expected[0])
                else:
                    self.assertRaises(NoDriving, verdict, chart, ship, corridor, hour, zone)
        self.assertEqual(words, {"sure", "never", "open"})


class SettlingTest(unittest.TestCase):
    def test_the_fewest_places(self):
        # The ship goes east or west from place 3, or stays; only the places at hour 1 tell.
        chart, ship = line_chart(7), Ship(0)
        corridor = [[3], [1, 2, 4], [1, 2, 4, 5]]
        self.assertEqual(settling(chart, ship, corridor, 2, [4, 5]), (1, [4], True))
        self.assertEqual(settling(chart, ship, corridor, 2, [1, 2]), (1, [2], True))
        corridor = [[3], [2, 3, 4], [2, 3, 4]]
        self.assertEqual(settling(chart, ship, corridor, 1, [2, 3]), (1, [4], False))
        self.assertEqual(settling(chart, ship, corridor, 1, [4]), (1, [4], True))

    def test_the_least_hour_of_zones_alike_in_number(self):
        chart, ship = line_chart(7), Ship(0, fast=3)
        corridor = [[3], [2, 4], [1, 5], [1, 5], [0, 6]]
        for hour in (2, 3):
            self.assertIsNone(settling(chart, ship, corridor, hour, [1], 5))
            self.assertIsNone(settling(chart, ship, corridor, 4, [0], 5))
        chart, ship = line_chart(7), Ship(0)
        corridor = [[3], [2, 4], [1, 5], [1, 5], [0, 6]]
        for after, expected in ((0, 1), (1, 1), (2, 2), (3, 3), (4, 4)):
            zones = {1: [2], 2: [1], 3: [1], 4: [0]}
            for hour, zone in zones.items():
                self.assertEqual(settling(chart, ship, corridor, hour, zone, after),
                                 (expected, zones[expected], True))

    def test_the_zone_for_the_question_comes_first(self):
        chart, ship = line_chart(7), Ship(0)
        corridor = [[3], [2, 4], [2, 4]]
        self.assertEqual(settling(chart, ship, corridor, 2, [4, 6]), (1, [4], True))
        self.assertEqual(settling(chart, ship, corridor, 2, [2, 6]), (1, [2], True))
        corridor = [[3], [2, 3, 4], [2, 3, 4]]
        self.assertEqual(settling(chart, ship, corridor, 1, [2, 3], after=1), (1, [4], False))

    def test_fewer_places_later(self):
        # At hour 1 both sides have two places, at hour 2 only one each.
        chart = Chart([5] * 7, [(0, 1), (0, 2), (0, 3), (0, 4), (1, 5), (2, 5), (3, 6), (4, 6)])
        corridor = [[0], [1, 2, 3, 4], [5, 6]]
        self.assertEqual(settling(chart, Ship(0), corridor, 1, [1, 2]), (2, [5], True))
        self.assertEqual(settling(chart, Ship(0), corridor, 1, [4, 3]), (2, [6], True))
        self.assertEqual(settling(chart, Ship(0), corridor[:2], 1, [1, 2]), (1, [1, 2], True))
        self.assertEqual(settling(chart, Ship(0), corridor[:2], 1, [3, 1, 2]), (1, [4], False))

    def test_not_open(self):
        chart, ship = line_chart(4), Ship(0)
        corridor = [[0, 1], [1, 2]]
        for zone in ([], [0], [1, 2], [3, 2, 1, 0]):
            self.assertIsNone(settling(chart, ship, corridor, 1, zone))

    def test_no_candidate(self):
        chart, ship = line_chart(4), Ship(0)
        corridor = [[0], [0, 1], [0, 1], [0, 1]]
        self.assertEqual(settling(chart, ship, corridor, 1, [1]), (1, [1], True))
        self.assertIsNone(settling(chart, ship, corridor, 1, [1], 2))
        self.assertIsNone(settling(chart, ship, corridor, 1, [1], after=3))

    def test_after_the_horizon(self):
        chart, ship = line_chart(4), Ship(0)
        corridor = [[0], [0, 1]]
        self.assertEqual(settling(chart, ship, corridor, 1, [1], after=1), (1, [1], True))
        for after in (2, 3, 24, 10 ** 39):
            self.assertIsNone(settling(chart, ship, corridor, 1, [1], after=after))
        self.assertEqual(settling(chart, ship, corridor, 1, [1], after=0), (1, [1], True))

    def test_no_driving_fits(self):
        chart = line_chart(4)
        for corridor in ([[]], [[0], [2]], [[0], [0], []], [[], [0], [0]]):
            for after in (0, len(corridor) - 1, len(corridor), 99):
                for zone in ([], [0], [0, 1, 2, 3]):
                    with self.assertRaises(NoDriving) as caught:
                        settling(chart, Ship(0), corridor, 0, zone, after=after)
                    self.assertEqual(caught.exception.ship, 0)

    def test_watch_is_a_new_list(self):
        chart, ship = full_chart(3), Ship(0)
        zone, corridor = [1], [[1, 0]]
        found = settling(chart, ship, corridor, 0, zone)
        self.assertEqual(found, (0, [1], True))
        self.assertIs(type(found[1]), list)
        found[1].append(2)
        self.assertEqual((zone, corridor), ([1], [[1, 0]]))
        self.assertEqual(settling(chart, ship, corridor, 0, zone), (0, [1], True))

    def test_many_cases(self):
        meanings = set()
        for seed in range(CASES):
            chart, ship, corridor = random_case(seed)
            drivings = fitting(chart, ship, corridor)
            after = random.Random(seed).randint(0, len(corridor))
            for hour, zone in itertools.product(range(len(corridor)), zones_of(chart.size)):
                for first in {0, after}:
                    if drivings:
                        expected = slow_settling(drivings, hour, zone, first)
                        self.assertEqual(settling(chart, ship, corridor, hour, zone, first), expected)
                        meanings.add(expected and expected[2])
                    else:
                        self.assertRaises(NoDriving, settling, chart, ship, corridor, hour, zone, first)
        self.assertEqual(meanings, {None, True, False})


if __name__ == "__main__":
    unittest.main()
