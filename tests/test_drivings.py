"""Points 16 and 17: drivings, their fuel, and whether they fit a corridor."""

import itertools
import unittest

from fogfleet.chart import Chart
from fogfleet.drivings import fits, fuel_along
from fogfleet.ships import Ship
from tests.helpers import (fitting, fuel_at_start, fuel_walked, full_chart, line_chart,
                           random_case, small_chart, walks)


class FuelAlongTest(unittest.TestCase):
    def test_example_of_the_document(self):
        self.assertEqual(fuel_along(small_chart(), Ship(0, tank=5, fuel=3), [0, 1, 1, 2]),
                         [3, 2, 2, 5])

    def test_a_single_place(self):
        chart = line_chart(3, harbours=(1,))
        self.assertEqual(fuel_along(chart, Ship(0, tank=5, fuel=3), [0]), [3])
        self.assertEqual(fuel_along(chart, Ship(0, tank=5), [2]), [5])
        self.assertEqual(fuel_along(chart, Ship(99, slow=3, fast=3, tank=0), [0]), [0])

    def test_a_harbour_as_the_first_place_fills_the_tank(self):
        chart = line_chart(3, harbours=(1,))
        for fuel in range(6):
            ship = Ship(0, tank=5, fuel=fuel)
            self.assertEqual(fuel_along(chart, ship, [1]), [5])
            self.assertEqual(fuel_along(chart, ship, [1, 2]), [5, 4])
        self.assertEqual(fuel_along(chart, Ship(0, tank=0), [1, 2]), None)

    def test_a_harbour_behind_a_step_fills_the_tank(self):
        chart = line_chart(4, harbours=(2,))
        ship = Ship(0, fast=2, tank=6, fuel=2)
        self.assertEqual(fuel_along(chart, ship, [0, 2]), [2, 6])
        self.assertEqual(fuel_along(chart, ship, [0, 1, 2, 3, 1]), [2, 1, 6, 5, 3])
        self.assertEqual(fuel_along(chart, ship, [0, 1, 2, 2, 2]), [2, 1, 6, 6, 6])

    def test_a_harbour_does_not_pay_for_the_step_to_it(self):
        chart = line_chart(3, harbours=(1,))
        self.assertIsNone(fuel_along(chart, Ship(0, fuel=0), [0, 1]))
        self.assertIsNone(fuel_along(chart, Ship(0, slow=2, fast=2, tank=1), [1, 1]))
        self.assertEqual(fuel_along(chart, Ship(0, slow=2, fast=2, tank=2), [1, 1]), [2, 2])

    def test_a_harbour_that_is_only_passed_fills_nothing(self):
        chart = line_chart(4, harbours=(1, 2))
        self.assertEqual(fuel_along(chart, Ship(0, fast=3, tank=8, fuel=4), [0, 3]), [4, 1])

    def test_a_step_needs_the_fuel_that_is_left(self):
        chart = line_chart(6)
        for fuel in range(4):
            ship = Ship(0, fast=3, tank=4, fuel=fuel)
            for lanes in range(4):
                expected = [fuel, fuel - lanes] if lanes <= fuel else None
                self.assertEqual(fuel_along(chart, ship, [1, 1 + lanes]), expected)
        self.assertEqual(fuel_along(chart, Ship(0, fuel=3), [0, 1, 2, 3, 3]), [3, 2, 1, 0, 0])
        self.assertIsNone(fuel_along(chart, Ship(0, fuel=3), [0, 1, 2, 3, 4]))

    def test_a_step_that_the_tide_forbids(self):
        chart = small_chart()
        self.assertIsNone(fuel_along(chart, Ship(4), [0, 1]))
        self.assertEqual(fuel_along(chart, Ship(4), [0, 0, 1]), [8, 8, 7])
        self.assertIsNone(fuel_along(chart, Ship(4), [0, 0, 1, 2]))
        self.assertEqual(fuel_along(chart, Ship(4), [0, 0, 1, 1, 2]), [8, 8, 7, 7, 8])
        self.assertIsNone(fuel_along(chart, Ship(6), [0, 0, 1]))
        self.assertIsNone(fuel_along(chart, Ship(4), [0, 0, 0, 1]))

    def test_a_step_that_the_speeds_forbid(self):
        chart = line_chart(6)
        self.assertIsNone(fuel_along(chart, Ship(0), [0, 2]))
        self.assertEqual(fuel_along(chart, Ship(0, fast=2), [0, 2]), [8, 6])
        self.assertIsNone(fuel_along(chart, Ship(0, fast=3), [0, 4]))
        self.assertIsNone(fuel_along(chart, Ship(0, slow=2, fast=2), [0, 1]))
        self.assertIsNone(fuel_along(chart, Ship(0, fast=0), [0, 1]))
        self.assertIsNone(fuel_along(Chart([5, 5], []), Ship(0, fast=3), [0, 1]))

    def test_a_step_takes_the_fewest_lanes_that_the_speeds_allow(self):
        chart = line_chart(6)
        self.assertEqual(fuel_along(chart, Ship(0, slow=2, fast=3), [0, 1]), [8, 5])
        self.assertEqual(fuel_along(chart, Ship(0, slow=1, fast=3), [0, 1]), [8, 7])
        self.assertEqual(fuel_along(full_chart(3), Ship(0, slow=2, fast=3), [0, 1]), [8, 6])

    def test_staying(self):
        chart = line_chart(3)
        self.assertEqual(fuel_along(chart, Ship(0, fuel=0), [1, 1, 1]), [0, 0, 0])
        self.assertEqual(fuel_along(chart, Ship(99, fuel=2), [1, 1]), [2, 2])
        self.assertEqual(fuel_along(chart, Ship(0, slow=1, fast=2), [1, 1, 1]), [8, 6, 4])
        self.assertEqual(fuel_along(full_chart(3), Ship(0, slow=3, fast=3), [1, 1, 1]), [8, 5, 2])
        self.assertIsNone(fuel_along(chart, Ship(0, slow=1), [1, 1]))
        self.assertIsNone(fuel_along(chart, Ship(0, slow=3, fast=3), [1, 1]))
        self.assertIsNone(fuel_along(chart, Ship(0, slow=1, fast=2, fuel=1), [1, 1]))
        self.assertIsNone(fuel_along(Chart([5], []), Ship(0, slow=1, fast=3), [0, 0]))

    def test_drivings_of_25_places(self):
        self.assertEqual(fuel_along(small_chart(), Ship(9, tank=7), [1] * 25), [7] * 25)
        chart = line_chart(2, harbours=(0,))
        self.assertEqual(fuel_along(chart, Ship(0), [1] + [0, 1] * 12), [8] + [8, 7] * 12)
        self.assertIsNone(fuel_along(chart, Ship(0, fast=0), [1] * 24 + [0]))
        self.assertEqual(fuel_along(line_chart(), Ship(0), [0] * 16 + list(range(9))),
                         [8] * 17 + [7, 6, 5, 4, 3, 2, 1, 0])
        self.assertIsNone(fuel_along(line_chart(), Ship(0), [0] * 15 + list(range(10))))

    def test_a_tuple_is_taken_as_a_list(self):
        self.assertEqual(fuel_along(small_chart(), Ship(0), (0, 1, 1)), [8, 7, 7])

    def test_many_lists_of_places(self):
        for seed in range(60):
            chart, ship, corridor = random_case(seed)
            steps = [walks(chart, ship, hour) for hour in range(4)]
            for many in range(1, 5):
                for places in itertools.product(range(chart.size), repeat=many):
                    fuels = [fuel_walked(chart, ship, places[:k], steps, 0,
                                         fuel_at_start(chart, ship, places[0]))
                             for k in range(1, many + 1)]
                    expected = None if None in fuels else fuels
                    self.assertEqual(fuel_along(chart, ship, list(places)), expected)


class FitsTest(unittest.TestCase):
    def test_drivings_that_fit_and_drivings_that_do_not(self):
        chart, ship = line_chart(4), Ship(0, fuel=2)
        corridor = [[1, 0], (2, 1), [3, 0, 1]]
        self.assertIs(fits(chart, ship, corridor, [0, 1, 1]), True)
        self.assertIs(fits(chart, ship, corridor, [1, 2, 3]), True)
        self.assertIs(fits(chart, ship, corridor, [1, 2, 2]), False)
        self.assertIs(fits(chart, ship, corridor, [2, 2, 3]), False)
        self.assertIs(fits(chart, ship, corridor, [1, 0, 0]), False)
        self.assertIs(fits(chart, ship, corridor, [0, 2, 3]), False)

    def test_wrong_lengths(self):
        chart, ship = line_chart(4), Ship(0)
        corridor = [[0, 1]] * 3
        self.assertIs(fits(chart, ship, corridor, [0, 1]), False)
        self.assertIs(fits(chart, ship, corridor, [0, 1, 1, 1]), False)
        self.assertIs(fits(chart, ship, corridor, []), False)
        self.assertIs(fits(chart, ship, corridor, [0] * 25), False)
        self.assertIs(fits(chart, ship, [[0]], [0]), True)
        self.assertIs(fits(chart, ship, [[0]] * 25, [0] * 25), True)
        self.assertIs(fits(chart, ship, [[0]] * 25, [0] * 24), False)

    def test_out_of_fuel(self):
        chart = line_chart(4)
        corridor = [[0, 1, 2, 3]] * 4
        self.assertIs(fits(chart, Ship(0, fuel=3), corridor, [0, 1, 2, 3]), True)
        self.assertIs(fits(chart, Ship(0, fuel=2), corridor, [0, 1, 2, 3]), False)
        filled = line_chart(4, harbours=(2,))
        self.assertIs(fits(filled, Ship(0, fuel=2), corridor, [0, 1, 2, 3]), True)
        self.assertIs(fits(filled, Ship(0, fuel=1), corridor, [0, 1, 2, 3]), False)

    def test_corridors_with_an_empty_zone(self):
        chart, ship = line_chart(2), Ship(0)
        for hour in range(3):
            corridor = [[0, 1], [0, 1], [0, 1]]
            corridor[hour] = []
            self.assertIs(fits(chart, ship, corridor, [0, 0, 0]), False)
        self.assertIs(fits(chart, ship, [()], [0]), False)

    def test_many_cases(self):
        for seed in range(120):
            chart, ship, corridor = random_case(seed)
            right = set(fitting(chart, ship, corridor))
            for many in range(1, 6):
                for places in itertools.product(range(chart.size), repeat=many):
                    self.assertIs(fits(chart, ship, corridor, list(places)), places in right)


if __name__ == "__main__":
    unittest.main()
