"""Points 54 to 56: meetings of two ships that move independently."""

import unittest

from fogfleet.chart import Chart
from fogfleet.drivings import fits
from fogfleet.errors import FleetError, NoDriving
from fogfleet.meeting import meeting_hours, meeting_verdict, meetings
from fogfleet.ships import Ship
from fogfleet.tables import possible_places
from tests.couples import (both_fitting, impossible_couples, meet, possible_couples, random_couple,
                           slow_word)
from tests.helpers import all_places, full_chart, line_chart

CASES = 400
LINE = line_chart(4)


def corridor(*zones):
    return [list(zone) for zone in zones]


class CoupleTest(unittest.TestCase):
    def check_pair(self, couple, pair, met):
        chart, first, first_corridor, second, second_corridor = couple
        self.assertIs(type(pair), tuple)
        driving, other = pair
        self.assertIs(type(driving), list)
        self.assertIs(type(other), list)
        self.assertTrue(fits(chart, first, first_corridor, driving))
        self.assertTrue(fits(chart, second, second_corridor, other))
        self.assertEqual(meet(driving, other), met)

    def check_verdict(self, couple, word):
        answer = meeting_verdict(*couple)
        self.assertIs(type(answer), tuple)
        self.assertEqual(answer[0], word)
        for pair, met, missing in ((answer[1], True, "never"), (answer[2], False, "always")):
            if word == missing:
                self.assertIsNone(pair)
            else:
                self.check_pair(couple, pair, met)


class MeetingsTest(unittest.TestCase):
    def test_places_of_both(self):
        couple = [LINE, Ship(0), [[0]] + all_places(LINE, 2), Ship(0), [[3]] + all_places(LINE, 2)]
        self.assertEqual(meetings(*couple), [[], [], [1, 2]])
        self.assertEqual(meetings(*couple[:1], *couple[3:], *couple[1:3]), [[], [], [1, 2]])

    def test_zones_that_are_empty_at_some_hours(self):
        # Only at hour 1 both can be at the same place.
        couple = [LINE, Ship(0), corridor([0], [1], [0]), Ship(0), corridor([2], [1, 2], [1, 2])]
        self.assertEqual(meetings(*couple), [[], [1], []])

    def test_horizon_0(self):
        couple = [LINE, Ship(0), [(3, 1, 0)], Ship(9), [[2, 3, 1]]]
        self.assertEqual(meetings(*couple), [[1, 3]])
        self.assertEqual(meetings(LINE, Ship(0), [[1]], Ship(0), [[2]]), [[]])

    def test_only_possible_places_count(self):
        # The corridors have place 1 in common, but the first ship has no fuel to come there.
        couple = [LINE, Ship(0, fuel=0), corridor([0], [0, 1]), Ship(0), corridor([1], [1])]
        self.assertEqual(meetings(*couple), [[], []])

    def test_many_couples(self):
        for couple, firsts, seconds in possible_couples(range(CASES)):
            chart, first, first_corridor, second, second_corridor = couple
            expected = []
            for hour in range(len(first_corridor)):
                places = {driving[hour] for driving in firsts} & {driving[hour] for driving in seconds}
                expected.append(sorted(places))
            self.assertEqual(meetings(*couple), expected)


class MeetingVerdictTest(CoupleTest):
    def test_never_always_and_open(self):
        everywhere = all_places(LINE, 2)
        self.check_verdict([LINE, Ship(0), [[0]] + everywhere, Ship(0), [[3]] + everywhere], "open")
        self.check_verdict([LINE, Ship(0), [[0], [0, 1]], Ship(0), [[3], [2, 3]]], "never")
        self.check_verdict([LINE, Ship(0), [[0], [0, 1], [2]], Ship(0), [[3], [2, 3], [2]]], "always")
        self.check_verdict([LINE, Ship(0), [[0, 1]], Ship(0), [[1]]], "open")
        self.check_verdict([LINE, Ship(0), [[1]], Ship(0), [[1]]], "always")
        self.check_verdict([LINE, Ship(0), [[0]], Ship(0), [[1]]], "never")

    def test_ships_that_pass_one_another_do_not_meet(self):
        pair = line_chart(2)
        couple = [pair, Ship(0), corridor([0], [1]), Ship(0), corridor([1], [0])]
        self.check_verdict(couple, "never")
        self.assertEqual(meeting_verdict(*couple), ("never", None, ([0, 1], [1, 0])))
        self.assertEqual(meetings(*couple), [[], []])
        self.assertEqual(meeting_hours(*couple), (None, None))
        # With two lanes in an hour they pass one another at the place between.
        couple = [LINE, Ship(0, fast=2), corridor([0], [2]), Ship(0, fast=2), corridor([2], [0])]
        self.check_verdict(couple, "never")

    def test_fuel_that_one_ship_needs_to_dodge(self):
        # Both come to place 1 at hour 2 unless one of them went the long way round.
        ring = Chart([5] * 5, [(0, 1), (1, 2), (2, 3), (3, 4), (0, 4)])
        moving = Ship(0, slow=1, fuel=3)
        couple = [ring, moving, corridor([0], [1, 4], [0, 3], [1, 2, 4]),
                  Ship(0, fast=0), corridor([1], [1], [1], [1])]
        self.check_verdict(couple, "open")
        couple[2][3] = [1]
        self.check_verdict(couple, "always")

    def test_little_fuel_of_one_ship_or_of_the_other(self):
        # The ships change places by place 1 or wait; only one tank suffices for two lanes.
        chart = Chart([5] * 4, [(0, 1), (1, 2), (1, 3)])
        for fuels, word in (((2, 0), "open"), ((0, 2), "open"), ((0, 0), "always"), ((1, 1), "open")):
            couple = [chart, Ship(0, tank=2, fuel=fuels[0]), corridor([0], [0, 1], [0, 2, 1]),
                      Ship(0, tank=2, fuel=fuels[1]), corridor([0, 3], [0, 1, 3], [0, 3, 1])]
            couple[4][0] = [0] if word == "always" else [0, 3]
            self.check_verdict(couple, word)

    def test_many_couples(self):
        words = {}
        for couple, firsts, seconds in possible_couples(range(CASES)):
            word = slow_word(firsts, seconds)
            self.check_verdict(couple, word)
            words[word] = words.get(word, 0) + 1
        self.assertEqual(sorted(words), ["always", "never", "open"])
        self.assertGreater(min(words.values()), 20)

    def test_tight_tanks(self):
        words = set()
        for seed in range(CASES):
            chart, first, corridor, second, other = random_couple(seed + 3000, places=3)
            first, second = Ship(0, tank=1 + seed % 2), Ship(0, slow=1, fast=2, tank=4)
            couple = [chart, first, corridor, second, other]
            firsts, seconds = both_fitting(couple)
            if firsts and seconds:
                word = slow_word(firsts, seconds)
                self.check_verdict(couple, word)
                words.add(word)
        self.assertEqual(words, {"always", "never", "open"})


class MeetingHoursTest(unittest.TestCase):
    def test_can_without_must(self):
        everywhere = all_places(LINE, 2)
        couple = [LINE, Ship(0), [[0]] + everywhere, Ship(0), [[3]] + everywhere]
        self.assertEqual(meeting_hours(*couple), (2, None))

    def test_neither(self):
        self.assertEqual(meeting_hours(LINE, Ship(0), [[0], [0, 1]], Ship(0), [[3], [2, 3]]), (None, None))

    def test_can_equal_to_must(self):
        self.assertEqual(meeting_hours(LINE, Ship(0), [[1]], Ship(0), [[1]]), (0, 0))
        couple = [LINE, Ship(0), [[0], [0, 1], [2]], Ship(0), [[3], [2, 3], [2]]]
        self.assertEqual(meeting_hours(*couple), (2, 2))

    def test_must_after_can(self):
        couple = [LINE, Ship(0), [[0], [0, 1], [1]], Ship(0), [[0, 2], [0, 1, 2], [1]]]
        self.assertEqual(meeting_hours(*couple), (0, 2))
        # After the last meeting that is possible both may go on apart.
        couple = [LINE, Ship(0), [[0, 1], [1], [0, 1, 2]], Ship(0), [[1, 2], [1], [1, 2]]]
        self.assertEqual(meeting_hours(*couple), (0, 1))

    def test_only_fitting_drivings_count_for_must(self):
        # At hour 1 the first ship could dodge to place 0, but then it does not come to place 2.
        couple = [LINE, Ship(0), [[0, 1], [0, 1], [2]], Ship(0, fast=0), [[1], [1], [1]]]
        self.assertEqual(meeting_hours(*couple), (0, 1))
        couple = [LINE, Ship(0, fuel=1, tank=1), [[0], [0, 1], [1], [1, 2]], Ship(0, fast=0), [[1]] * 4]
        self.assertEqual(meeting_hours(*couple), (1, 2))

    def test_many_couples(self):
        kinds = set()
        for couple, firsts, seconds in possible_couples(range(CASES)):
            met = [min((hour for hour, (a, b) in enumerate(zip(driving, other)) if a == b), default=None)
                   for driving in firsts for other in seconds]
            can = min((hour for hour in met if hour is not None), default=None)
            must = None if None in met else max(met)
            self.assertEqual(meeting_hours(*couple), (can, must))
            kinds.add((can is None, must is None, can == must))
        self.assertEqual(len(kinds), 4)


class NoDrivingTest(unittest.TestCase):
    def test_no_driving(self):
        for function in (meetings, meeting_verdict, meeting_hours):
            for couple, number in impossible_couples():
                with self.assertRaises(NoDriving) as caught:
                    function(*couple)
                self.assertEqual(caught.exception.ship, number)
                self.assertIsInstance(caught.exception, FleetError)

    def test_great_limits(self):
        chart = full_chart(depth=99, harbours=[0])
        couple = [chart, Ship(99, fast=3), all_places(chart, 25), Ship(99, slow=3, fast=3), all_places(chart, 25)]
        zones = possible_places(chart, couple[3], couple[4])
        self.assertEqual(meetings(*couple), zones)
        self.assertEqual(meeting_verdict(*couple)[0], "open")
        self.assertEqual(meeting_hours(*couple), (0, None))


if __name__ == "__main__":
    unittest.main()
