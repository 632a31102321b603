"""Points 68 and 69: stays in the harbour, and berths."""

import itertools
import random
import unittest

from fogfleet.errors import FleetError, InvalidStay
from fogfleet.harbour import berths, lying_spans, present

SAILINGS = [(1, 3), (2, 2), (0, 4), (5, 6)]


class LyingSpansTest(unittest.TestCase):
    def refuse(self, index, schedule, stays):
        with self.assertRaises(InvalidStay) as caught:
            lying_spans(SAILINGS, schedule, stays)
        self.assertEqual(caught.exception.index, index)
        self.assertIsInstance(caught.exception, FleetError)

    def test_some_stays(self):
        schedule = [0, 9, 4, 7]
        self.assertEqual(lying_spans(SAILINGS, schedule, []), [])
        self.assertEqual(lying_spans(SAILINGS, schedule, [(0, 1)]), [(1, 9)])
        self.assertEqual(lying_spans(SAILINGS, schedule, [(2, 1), (0, 2), (2, 3)]), [(4, 9), (1, 4), (4, 7)])
        self.assertEqual(lying_spans(tuple(SAILINGS), tuple(schedule), ((0, 1),)), [(1, 9)])

    def test_a_stay_of_one_hour(self):
        self.assertEqual(lying_spans(SAILINGS, [3, 0, 4, 0], [(0, 2)]), [(4, 4)])
        self.refuse(0, [3, 0, 3, 0], [(0, 2)])

    def test_the_first_wrong_stay(self):
        schedule = [3, 9, 3, 0]
        self.refuse(0, schedule, [(0, 2)])
        self.refuse(1, schedule, [(0, 1), (0, 2), (3, 2)])
        self.refuse(2, schedule, [(0, 1), (2, 1), (3, 2), (0, 2)])
        # A leg that takes longer may still end after the ship was to leave.
        self.assertEqual(lying_spans(SAILINGS, [0, 1, 0, 0], [(0, 1)]), [(1, 1)])


class PresentTest(unittest.TestCase):
    def test_hours(self):
        schedule, legs, stays = [0, 9, 4, 7], [3, 2, 1, 5], [(0, 1), (0, 2), (2, 3)]
        # The stays are from 3 to 9, from 3 to 4, and from 5 to 7.
        for hour, expected in ((0, []), (2, []), (3, [0, 1]), (4, [0, 1]), (5, [0, 2]), (7, [0, 2]), (8, [0]),
                               (9, [0]), (10, []), (200, [])):
            self.assertEqual(present(schedule, legs, stays, hour), expected)
            self.assertEqual(present(tuple(schedule), tuple(legs), tuple(stays), hour), expected)
        self.assertEqual(present(schedule, legs, [], 4), [])

    def test_a_stay_of_one_hour_and_of_none(self):
        self.assertEqual([hour for hour in range(12) if present([2, 6], [4, 0], [(0, 1)], hour)], [6])
        self.assertEqual([hour for hour in range(12) if present([2, 6], [5, 0], [(0, 1)], hour)], [])
        self.assertEqual([hour for hour in range(12) if present([2, 6], [9, 0], [(0, 1)], hour)], [])

    def test_a_ship_lies_within_its_span(self):
        dice = random.Random(0)
        for _ in range(200):
            schedule = [dice.randint(0, 4), dice.randint(6, 12), dice.randint(2, 5), dice.randint(6, 9)]
            stays = [(0, 1), (2, 3), (2, 1)]
            spans = lying_spans(SAILINGS, schedule, stays)
            legs = [dice.randint(low, high) for low, high in SAILINGS]
            for hour in range(20):
                expected = [index for index, (i, j) in enumerate(stays)
                            if hour in range(schedule[i] + legs[i], schedule[j] + 1)]
                self.assertEqual(present(schedule, legs, stays, hour), expected)
                for index in expected:
                    self.assertTrue(spans[index][0] <= hour <= spans[index][1])


class BerthsTest(unittest.TestCase):
    def check(self, spans):
        answer = berths(spans)
        self.assertIs(type(answer), tuple)
        count, numbers, hour = answer
        self.assertIs(type(numbers), list)
        self.assertEqual(numbers, self.slow_numbers(spans))
        hours = {at for first, last in spans for at in range(first, last + 1)}
        many = {at: sum(first <= at <= last for first, last in spans) for at in hours}
        self.assertEqual(count, max(many.values(), default=0))
        self.assertEqual(count, max(numbers, default=-1) + 1)
        self.assertEqual(hour, min((at for at in many if many[at] == count), default=None))
        for (a, first), (b, second) in itertools.combinations(enumerate(spans), 2):
            if set(range(first[0], first[1] + 1)) & set(range(second[0], second[1] + 1)):
                self.assertNotEqual(numbers[a], numbers[b])
        return answer

    def slow_numbers(self, spans):
        """The numbers by the order that the document describes."""
        numbers = {}
        for first in range(201):
            for index, span in enumerate(spans):
                if span[0] == first:
                    taken = {numbers[other] for other in numbers
                             if set(range(span[0], span[1] + 1)) & set(range(spans[other][0], spans[other][1] + 1))}
                    numbers[index] = min(set(range(len(spans) + 1)) - taken)
        return [numbers[index] for index in range(len(spans))]

    def test_the_example(self):
        self.assertEqual(berths([(3, 6), (0, 3), (4, 9)]), (2, [1, 0, 0], 3))

    def test_no_spans(self):
        self.assertEqual(berths([]), (0, [], None))
        self.assertEqual(berths(()), (0, [], None))

    def test_one_span(self):
        self.assertEqual(berths([(5, 9)]), (1, [0], 5))
        self.assertEqual(berths([(0, 0)]), (1, [0], 0))
        self.assertEqual(berths([(200, 200)]), (1, [0], 200))

    def test_equal_spans(self):
        self.assertEqual(berths([(2, 4)] * 3), (3, [0, 1, 2], 2))
        self.assertEqual(berths([(2, 4), (2, 3), (2, 9)]), (3, [0, 1, 2], 2))
        self.assertEqual(berths([(2, 2)] * 30), (30, list(range(30)), 2))

    def test_spans_that_share_one_hour(self):
        self.assertEqual(berths([(0, 3), (3, 5)]), (2, [0, 1], 3))
        self.assertEqual(berths([(3, 5), (0, 3)]), (2, [1, 0], 3))

    def test_spans_side_by_side(self):
        self.assertEqual(berths([(0, 3), (4, 5)]), (1, [0, 0], 0))
        self.assertEqual(berths([(4, 5), (0, 3), (6, 200)]), (1, [0, 0, 0], 0))

    def test_the_least_free_number(self):
        self.assertEqual(berths([(0, 9), (1, 2), (2, 9), (4, 9)]), (3, [0, 1, 2, 1], 2))
        self.assertEqual(berths([(0, 1), (0, 5), (3, 5), (3, 4)]), (3, [0, 1, 0, 2], 3))

    def test_many_spans(self):
        for seed in range(300):
            dice = random.Random(seed)
            spans = []
            for _ in range(dice.choice([2, 5, 10, 30])):
                first = dice.randint(0, dice.choice([5, 20, 200]))
                spans.append((first, min(200, first + dice.choice([0, 1, 3, 50, 200]))))
            count, numbers, hour = self.check(spans)
            self.check(tuple(spans))
            self.assertEqual(len(numbers), len(spans))

    def test_spans_of_ships_that_lie_in_the_harbour(self):
        schedule, stays = [0, 9, 4, 7], [(2, 1), (0, 2), (2, 3)]
        count, numbers, hour = self.check(lying_spans(SAILINGS, schedule, stays))
        lows = [low for low, high in SAILINGS]
        self.assertEqual(len(present(schedule, lows, stays, hour)), count)


if __name__ == "__main__":
    unittest.main()
