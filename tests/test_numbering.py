"""Point 21: the numbers of drivings."""

import itertools
import math
import random
import unittest

from fogfleet.drivings import fits
from fogfleet.errors import DoesNotFit, NoSuchNumber
from fogfleet.numbering import count_drivings, driving_at, number_of
from fogfleet.reach import first_driving
from fogfleet.ships import Ship
from tests.helpers import (all_places, beginnings_of, fitting, full_chart, line_chart,
                           random_case, small_chart)

CASES = 200
HUGE = 10 ** 39 + 7


def slow_hour(beginnings, places):
    """The hour that DoesNotFit tells for a list that is no fitting driving."""
    for hour in range(len(places)):
        if places[:hour + 1] not in beginnings:
            return hour
    return len(places)


class NumberingCase(unittest.TestCase):
    def refuse_number(self, chart, ship, corridor, number):
        with self.assertRaises(NoSuchNumber) as caught:
            driving_at(chart, ship, corridor, number)
        self.assertEqual(caught.exception.number, number)

    def refuse_driving(self, chart, ship, corridor, driving, hour):
        with self.assertRaises(DoesNotFit) as caught:
            number_of(chart, ship, corridor, driving)
        self.assertEqual(caught.exception.hour, hour, driving)


class SmallListsTest(NumberingCase):
    def test_examples_of_the_document(self):
        chart, corridor = small_chart(), [[0], [0, 1, 2], [0, 1, 2]]
        self.assertEqual(count_drivings(chart, Ship(0), corridor), 5)
        self.assertEqual(driving_at(chart, Ship(0), corridor, 3), [0, 1, 1])

    def test_the_order_is_that_of_the_places_and_not_of_the_zones(self):
        chart, corridor = line_chart(12), [[10, 9, 2], (11, 10, 1, 2, 3)]
        drivings = [[2, 1], [2, 2], [2, 3], [9, 10], [10, 10], [10, 11]]
        self.assertEqual(count_drivings(chart, Ship(0), corridor), 6)
        for number, driving in enumerate(drivings):
            self.assertEqual(driving_at(chart, Ship(0), corridor, number), driving)
            self.assertEqual(number_of(chart, Ship(0), corridor, driving), number)

    def test_a_single_hour(self):
        chart = line_chart(4)
        self.assertEqual(count_drivings(chart, Ship(0), [[3, 1]]), 2)
        self.assertEqual(driving_at(chart, Ship(0), [[3, 1]], 1), [3])
        self.assertEqual(number_of(chart, Ship(0), [(3, 1)], (3,)), 1)

    def test_many_cases(self):
        for seed in range(CASES):
            chart, ship, corridor = random_case(seed)
            drivings = fitting(chart, ship, corridor)
            self.assertEqual(count_drivings(chart, ship, corridor), len(drivings))
            for number, driving in enumerate(drivings):
                self.assertEqual(driving_at(chart, ship, corridor, number), list(driving))
                self.assertEqual(number_of(chart, ship, corridor, list(driving)), number)
            for number in (-1, -HUGE, len(drivings), len(drivings) + 1, HUGE):
                self.refuse_number(chart, ship, corridor, number)


class GreatCountsTest(NumberingCase):
    def check(self, chart, ship, corridor, count):
        self.assertEqual(count_drivings(chart, ship, corridor), count)
        dice = random.Random(count)
        numbers = [0, 1, count // 2, count - 2, count - 1]
        numbers += [dice.randrange(count) for _ in range(10)]
        drivings = [driving_at(chart, ship, corridor, number) for number in sorted(numbers)]
        self.assertEqual(drivings, sorted(drivings))
        for number, driving in zip(sorted(numbers), drivings):
            self.assertTrue(fits(chart, ship, corridor, driving))
            self.assertEqual(number_of(chart, ship, corridor, driving), number)
        self.assertEqual(drivings[0], first_driving(chart, ship, corridor))
        self.refuse_number(chart, ship, corridor, count)
        self.refuse_number(chart, ship, corridor, -1)

    def test_every_list_of_places_is_a_driving(self):
        chart = full_chart(harbours=range(12))
        corridor = all_places(chart, 25)
        self.check(chart, Ship(0), corridor, 12 ** 25)
        number = 0
        driving = [(7 * hour + 5) % 12 for hour in range(25)]
        for place in driving:
            number = number * 12 + place
        self.assertEqual(number_of(chart, Ship(0), corridor, driving), number)
        self.assertEqual(driving_at(chart, Ship(0), corridor, number), driving)

    def test_fuel_for_8_lanes(self):
        chart = full_chart()
        count = 12 * sum(math.comb(24, lanes) * 11 ** lanes for lanes in range(9))
        self.assertGreater(count, 10 ** 15)
        self.check(chart, Ship(0), all_places(chart, 25), count)

    def test_great_speeds(self):
        chart = full_chart(harbours=range(12))
        self.check(chart, Ship(5, slow=2, fast=3), all_places(chart, 25), 12 ** 25)
        chart = full_chart(harbours=(3,))
        ship = Ship(5, slow=1, fast=3)
        corridor = all_places(chart, 25)
        count = count_drivings(chart, ship, corridor)
        self.assertGreater(count, 10 ** 15)
        self.check(chart, ship, corridor, count)


class NoSuchNumberTest(NumberingCase):
    def test_numbers_beyond_the_drivings(self):
        chart, corridor = small_chart(), [[0], [0, 1, 2], [0, 1, 2]]
        for number in (-1, -5, -HUGE, 5, 6, HUGE):
            self.refuse_number(chart, Ship(0), corridor, number)

    def test_no_driving_at_all(self):
        chart = line_chart(4)
        for corridor in ([[]], [[0], [2]], [[], [0]], [[0], [0], []]):
            self.assertEqual(count_drivings(chart, Ship(0), corridor), 0)
            for number in (-1, 0, 1, HUGE):
                self.refuse_number(chart, Ship(0), corridor, number)


class DoesNotFitTest(NumberingCase):
    def test_a_first_place_that_no_fitting_driving_has(self):
        chart, corridor = line_chart(4), [[0, 1], [0, 1, 2], [2]]
        self.refuse_driving(chart, Ship(0), corridor, [3, 2, 2], 0)
        self.refuse_driving(chart, Ship(0, fuel=1), corridor, [0, 1, 2], 0)
        self.refuse_driving(chart, Ship(0), [[0, 3], [1, 0]], [3, 2], 0)

    def test_a_place_from_which_no_fitting_driving_goes_on(self):
        chart, corridor = line_chart(4), [[0, 1], [0, 1, 2], [3, 2]]
        self.refuse_driving(chart, Ship(0), corridor, [1, 0, 0], 1)
        self.refuse_driving(chart, Ship(0), corridor, [1, 1, 3], 2)
        self.refuse_driving(chart, Ship(0), corridor, [0, 2, 2], 1)
        self.refuse_driving(chart, Ship(0, fuel=1), corridor, [1, 2, 3], 2)
        self.refuse_driving(chart, Ship(0, fuel=1), [[0], [0, 1], [0, 1], [0, 2]], [0, 1, 1, 2], 1)
        self.refuse_driving(small_chart(), Ship(4), [[0], [0], [0, 1], [0, 1], [2]],
                            [0, 0, 0, 1, 2], 2)

    def test_a_beginning_that_is_too_short(self):
        chart, corridor = line_chart(4), [[0, 1]] * 4
        for many in range(4):
            self.refuse_driving(chart, Ship(0), corridor, [0, 1, 1][:many], many)

    def test_a_short_list_that_is_no_beginning(self):
        chart, corridor = line_chart(4), [[0, 1], [0, 1], [2]]
        self.refuse_driving(chart, Ship(0), corridor, [0, 0], 1)
        self.refuse_driving(chart, Ship(0), corridor, [2], 0)

    def test_the_empty_driving(self):
        self.refuse_driving(line_chart(4), Ship(0), [[0], [1]], [], 0)
        self.refuse_driving(line_chart(4), Ship(0), [[0], [2]], [], 0)

    def test_a_driving_that_is_too_long(self):
        chart, corridor = line_chart(4), [[0, 1]] * 3
        self.refuse_driving(chart, Ship(0), corridor, [0, 1, 1, 1], 3)
        self.refuse_driving(chart, Ship(0), corridor, [0] * 25, 3)
        self.refuse_driving(chart, Ship(0), corridor, [0, 1, 2, 1], 2)
        self.refuse_driving(chart, Ship(0), [[0]], [0, 0], 1)

    def test_no_driving_at_all(self):
        chart = line_chart(4)
        for corridor in ([[0], [2]], [[0, 1], [], [0, 1]], [[]], [[0], [0], [3]]):
            for driving in ([], [0], [0, 0], [0, 0, 0]):
                self.refuse_driving(chart, Ship(0), corridor, driving, 0)

    def test_many_cases(self):
        for seed in range(CASES):
            chart, ship, corridor = random_case(seed)
            drivings = set(fitting(chart, ship, corridor))
            beginnings = beginnings_of(drivings)
            for many in range(min(len(corridor) + 2, 6)):
                for places in itertools.product(range(chart.size), repeat=many):
                    if places not in drivings:
                        hour = slow_hour(beginnings, places)
                        self.refuse_driving(chart, ship, corridor, list(places), hour)


if __name__ == "__main__":
    unittest.main()
