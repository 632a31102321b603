"""Points 17 and 20: next places, the first driving, and the hours of reaching a zone."""

import itertools
import unittest

from fogfleet.chart import Chart
from fogfleet.errors import NoDriving
from fogfleet.reach import first_driving, next_places, reach_hours
from fogfleet.ships import Ship
from tests.helpers import (all_places, beginnings_of, fitting, full_chart, line_chart,
                           random_case, small_chart, zones_of)

CASES = 200


class NextPlacesTest(unittest.TestCase):
    def test_the_empty_list(self):
        chart = line_chart(4)
        self.assertEqual(next_places(chart, Ship(0), [[3, 2, 0], [3, 1]], []), [0, 2, 3])
        self.assertEqual(next_places(chart, Ship(0), [(3, 2, 0), (1,)], []), [0, 2])
        self.assertEqual(next_places(chart, Ship(0), [[2, 0]], []), [0, 2])
        self.assertEqual(next_places(chart, Ship(0), [[0], [2]], []), [])
        self.assertEqual(next_places(chart, Ship(0), [[]], []), [])

    def test_a_beginning(self):
        chart, ship = line_chart(4), Ship(0)
        corridor = [[0, 1], [2, 1, 0], [3, 2, 1, 0], [2]]
        self.assertEqual(next_places(chart, ship, corridor, [0]), [0, 1])
        self.assertEqual(next_places(chart, ship, corridor, [1]), [0, 1, 2])
        self.assertEqual(next_places(chart, ship, corridor, [0, 0]), [1])
        self.assertEqual(next_places(chart, ship, corridor, [1, 2]), [1, 2, 3])
        self.assertEqual(next_places(chart, ship, corridor, [1, 2, 3]), [2])
        self.assertEqual(next_places(chart, ship, corridor, (1, 2, 3)), [2])

    def test_a_whole_driving_and_longer_lists(self):
        chart, ship = line_chart(4), Ship(0)
        corridor = [[0, 1]] * 3
        self.assertEqual(next_places(chart, ship, corridor, [0, 1]), [0, 1])
        self.assertEqual(next_places(chart, ship, corridor, [0, 1, 1]), [])
        self.assertEqual(next_places(chart, ship, corridor, [0, 1, 1, 1]), [])
        self.assertEqual(next_places(chart, ship, corridor, [0] * 25), [])
        self.assertEqual(next_places(chart, ship, corridor, [0, 2, 1, 1]), [])

    def test_possible_ways_that_are_no_beginnings(self):
        chart = line_chart(4)
        fuel_lacks = [[0, 1], [0, 1], [3, 2, 1, 0], [3]]
        self.assertEqual(next_places(chart, Ship(0, fuel=2), fuel_lacks, []), [1])
        self.assertEqual(next_places(chart, Ship(0, fuel=2), fuel_lacks, [1]), [1])
        self.assertEqual(next_places(chart, Ship(0, fuel=2), fuel_lacks, [1, 0]), [])
        self.assertEqual(next_places(chart, Ship(0, fuel=2), fuel_lacks, [0]), [])
        later_zone = [[1], [0, 1, 2], [3]]
        self.assertEqual(next_places(chart, Ship(0), later_zone, [1]), [2])
        self.assertEqual(next_places(chart, Ship(0), later_zone, [1, 1]), [])
        self.assertEqual(next_places(chart, Ship(0), [[1], [1], []], [1]), [])

    def test_the_tide_ends_a_beginning(self):
        chart, ship = small_chart(), Ship(4)
        corridor = [[0], [0], [0, 1], [0, 1], [2]]
        self.assertEqual(next_places(chart, ship, corridor, [0, 0]), [1])
        self.assertEqual(next_places(chart, ship, corridor, [0, 0, 1]), [1])
        self.assertEqual(next_places(chart, ship, corridor, [0, 0, 0]), [])
        self.assertEqual(next_places(chart, ship, corridor[:3] + [[2]], [0, 0]), [])

    def test_the_fuel_of_the_places_so_far_counts(self):
        # Both lists end at place 1 at hour 2, but only the shorter way has fuel left.
        chart, ship = line_chart(4), Ship(0, fuel=2)
        corridor = [[0, 1], [0, 1, 2], [1], [1, 2], [2, 1]]
        self.assertEqual(next_places(chart, ship, corridor, [1, 1, 1]), [1, 2])
        self.assertEqual(next_places(chart, ship, corridor, [1, 2, 1]), [1])

    def test_many_cases(self):
        for seed in range(CASES):
            chart, ship, corridor = random_case(seed)
            beginnings = beginnings_of(fitting(chart, ship, corridor))
            for many in range(min(len(corridor) + 2, 5)):
                for places in itertools.product(range(chart.size), repeat=many):
                    expected = [place for place in range(chart.size)
                                if places + (place,) in beginnings]
                    self.assertEqual(next_places(chart, ship, corridor, list(places)), expected)


class FirstDrivingTest(unittest.TestCase):
    def test_the_first_driving(self):
        chart = line_chart(4)
        self.assertEqual(first_driving(chart, Ship(0), [[2, 1], [3, 2, 1, 0], (3, 2)]), [1, 1, 2])
        self.assertEqual(first_driving(chart, Ship(0), [[2, 1], [3, 2, 1, 0], (3,)]), [1, 2, 3])
        self.assertEqual(first_driving(chart, Ship(0), [(3, 1)]), [1])

    def test_a_lesser_place_without_fuel_for_the_rest(self):
        chart, corridor = line_chart(4), [[0, 1], [3, 2, 1, 0], [3]]
        self.assertEqual(first_driving(chart, Ship(0, fast=2), corridor), [0, 1, 3])
        self.assertEqual(first_driving(chart, Ship(0, fast=2, fuel=2), corridor), [1, 1, 3])
        self.assertIsNone(first_driving(chart, Ship(0, fast=2, fuel=1), corridor))

    def test_no_driving_fits(self):
        chart = line_chart(4)
        self.assertIsNone(first_driving(chart, Ship(0), [[]]))
        self.assertIsNone(first_driving(chart, Ship(0), [[0], [1], []]))
        self.assertIsNone(first_driving(chart, Ship(0), [[0], [2]]))
        self.assertIsNone(first_driving(chart, Ship(9), [[0], [1]]))

    def test_25_hours(self):
        chart = full_chart()
        corridor = [[11]] + all_places(chart, 23) + [[11]]
        self.assertEqual(first_driving(chart, Ship(0), corridor), [11] + [0] * 23 + [11])
        self.assertEqual(first_driving(chart, Ship(0, fuel=1), corridor), [11] * 25)

    def test_many_cases(self):
        for seed in range(CASES):
            chart, ship, corridor = random_case(seed)
            drivings = fitting(chart, ship, corridor)
            expected = list(drivings[0]) if drivings else None
            self.assertEqual(first_driving(chart, ship, corridor), expected)


class ReachHoursTest(unittest.TestCase):
    def test_can_and_must_alike(self):
        chart = line_chart(4)
        self.assertEqual(reach_hours(chart, Ship(0), [[0], [0, 1], [2]], [2]), (2, 2))
        self.assertEqual(reach_hours(chart, Ship(0), [[0, 1]], (1, 0)), (0, 0))
        self.assertEqual(reach_hours(chart, Ship(0), all_places(chart, 3), [0, 1, 2, 3]), (0, 0))
        self.assertEqual(reach_hours(chart, Ship(0), [[0], [1], [2, 1, 0]], [3, 1]), (1, 1))

    def test_can_and_must_different(self):
        chart = line_chart(4)
        self.assertEqual(reach_hours(chart, Ship(0), [[0], [0, 1], [0, 1, 2], [2]], [1]), (1, 2))
        self.assertEqual(reach_hours(chart, Ship(0), all_places(chart, 3), [1]), (0, None))

    def test_none(self):
        chart = line_chart(4)
        self.assertEqual(reach_hours(chart, Ship(0), [[0], [0, 1], [0, 1]], [2, 3]), (None, None))
        self.assertEqual(reach_hours(chart, Ship(0), [[0], [0, 1], [0, 1]], [1]), (1, None))
        self.assertEqual(reach_hours(chart, Ship(0), [[0], [0, 1], [0, 1]], []), (None, None))
        self.assertEqual(reach_hours(chart, Ship(0), [[0]], ()), (None, None))

    def test_every_driving_is_in_the_zone_but_at_different_hours(self):
        # The ship goes back and forth, so it is at place 0 at hour 0 or at hour 1.
        chart = line_chart(2)
        self.assertEqual(reach_hours(chart, Ship(0, slow=1), [[0, 1]] * 3, [0]), (0, 1))
        # A ship that is late at place 1 has left place 0 late, so place 2 is reached at hour 2 or 3.
        corridor = [[0], [0, 1], [1, 2], [2]]
        self.assertEqual(reach_hours(line_chart(3), Ship(0), corridor, [2]), (2, 3))
        self.assertEqual(reach_hours(line_chart(3), Ship(0), corridor, [1]), (1, 2))

    def test_the_fuel_does_not_suffice_for_keeping_out_of_the_zone(self):
        chart = Chart([5] * 5, [(0, 1), (1, 3), (0, 2), (2, 4), (4, 3)])
        corridor = [[0], [1, 2], [1, 3, 4], [3]]
        self.assertEqual(reach_hours(chart, Ship(0, fuel=2), corridor, [1]), (1, 1))
        self.assertEqual(reach_hours(chart, Ship(0, fuel=3), corridor, [1]), (1, None))

    def test_a_harbour_in_the_zone_does_not_help_those_that_keep_out(self):
        chart = Chart([5] * 4, [(0, 1), (1, 2), (0, 2), (2, 3)], harbours=(1,))
        corridor = [[0], [1, 2], [2], [3]]
        self.assertEqual(reach_hours(chart, Ship(0, tank=3, fuel=1), corridor, [1]), (1, 1))
        self.assertEqual(reach_hours(chart, Ship(0, tank=3, fuel=2), corridor, [1]), (1, None))

    def test_no_driving_fits(self):
        chart = line_chart(4)
        for corridor in ([[]], [[0], [2]], [[0], [0], []], [[], [0], [0]], [[0], [3], [0]]):
            for zone in ([], [0], [0, 1, 2, 3]):
                with self.assertRaises(NoDriving) as caught:
                    reach_hours(chart, Ship(0), corridor, zone)
                self.assertEqual(caught.exception.ship, 0)

    def test_many_cases(self):
        for seed in range(CASES):
            chart, ship, corridor = random_case(seed)
            drivings = fitting(chart, ship, corridor)
            for zone in zones_of(chart.size):
                if drivings:
                    hours = [[hour for hour, place in enumerate(driving) if place in zone]
                             for driving in drivings]
                    can = min([hour for row in hours for hour in row], default=None)
                    must = max([row[0] for row in hours]) if [] not in hours else None
                    self.assertEqual(reach_hours(chart, ship, corridor, zone), (can, must))
                else:
                    self.assertRaises(NoDriving, reach_hours, chart, ship, corridor, zone)


if __name__ == "__main__":
    unittest.main()
