"""Points 66 and 67: the least schedule, and the lifts that lead to it."""

import itertools
import unittest

from fogfleet.errors import FleetError, InvalidOrder
from fogfleet.gates import Gate
from fogfleet.schedules import least_schedule
from tests.sailings import keeps, random_sailings, wrong_orders


def slow_gate(hours, low, high):
    """The hours of the shrunk gate."""
    return [hour for hour in range(max(hours, default=0) + 1)
            if all(hour + delay in hours for delay in range(low, high + 1))]


def slow_asked(order, sailings, x, last):
    """Point 67: the sailing that the order asks, and the hour, or None if it asks for nothing."""
    word, i = order[0], order[1]
    if word == "after":
        return order[2], x[i] + sailings[i][1] + order[3]
    if word == "with":
        return i, x[order[2]] - order[3]
    if word == "lands":
        return i, x[order[2]] + sailings[order[2]][1] - sailings[i][0] - order[3]
    if word == "by":
        return (i, last + 1) if x[i] + sailings[i][1] > order[2] else None
    if word == "from":
        return i, order[2]
    hours = order[2].hours if word == "gate" else slow_gate(order[2].hours, *sailings[i])
    return i, min((hour for hour in hours if hour >= x[i]), default=last + 1)


class ScheduleTest(unittest.TestCase):
    def check(self, sailings, orders, last=48):
        answer = least_schedule(sailings, orders, last)
        self.assertIs(type(answer), tuple)
        schedule, lifts = answer
        self.assertIs(type(lifts), list)
        hours = [0] * len(sailings)
        for at, lift in enumerate(lifts):
            self.assertIs(type(lift), tuple)
            number, hour, index = lift
            self.assertEqual(slow_asked(orders[index], sailings, hours, last), (number, hour))
            self.assertGreater(hour, hours[number])
            hours[number] = hour
            self.assertEqual(hour > last, schedule is None and at == len(lifts) - 1)
        if schedule is None:
            self.assertTrue(lifts)
        else:
            self.assertIs(type(schedule), list)
            self.assertEqual(schedule, hours)
        return schedule


class LeastScheduleTest(ScheduleTest):
    def test_the_example(self):
        self.assertEqual(least_schedule([(1, 2), (0, 3)], [("after", 0, 1, 1)]), ([0, 3], [(1, 3, 0)]))

    def test_no_orders_and_no_sailings(self):
        self.assertEqual(least_schedule([(1, 2), (0, 3)], []), ([0, 0], []))
        self.assertEqual(least_schedule([], []), ([], []))
        self.assertEqual(least_schedule([], [], 0), ([], []))

    def test_each_word(self):
        sailings = [(1, 3), (0, 2)]
        for orders, expected in (
                ([("after", 0, 1, 2)], [0, 5]), ([("after", 0, 1, -9)], [0, 0]),
                ([("from", 1, 4), ("with", 0, 1, 1)], [3, 4]), ([("with", 0, 1, -2)], [2, 0]),
                ([("lands", 0, 1, 0)], [1, 0]), ([("from", 1, 4), ("lands", 0, 1, 2)], [3, 4]),
                ([("by", 0, 3)], [0, 0]), ([("by", 0, 2)], None), ([("from", 0, 9)], [9, 0]),
                ([("gate", 1, Gate([7, 4]))], [0, 4]), ([("from", 1, 5), ("gate", 1, Gate([7, 4]))], [0, 7]),
                ([("from", 1, 8), ("gate", 1, Gate([7, 4]))], None), ([("gate", 1, Gate([]))], None),
                ([("bar", 1, Gate([4, 5, 6]))], [0, 4]), ([("bar", 0, Gate([4, 5, 6]))], [3, 0]),
                ([("bar", 0, Gate([4, 6, 7, 9, 10, 11]))], [8, 0]), ([("bar", 0, Gate([1, 2]))], None),
                ([("bar", 0, Gate([1, 2, 3]))], [0, 0])):
            self.assertEqual(self.check(sailings, orders), expected)

    def test_by_asks_only_if_the_hour_is_too_late(self):
        sailings = [(0, 2)]
        self.assertEqual(least_schedule(sailings, [("by", 0, 2)]), ([0], []))
        self.assertEqual(least_schedule(sailings, [("by", 0, 1)], 9), (None, [(0, 10, 0)]))
        self.assertEqual(least_schedule(sailings, [("by", 0, 4), ("from", 0, 3)], 9), (None, [(0, 3, 1), (0, 10, 0)]))

    def test_last(self):
        sailings = [(0, 0)]
        for last in (0, 7, 48, 96):
            self.assertEqual(self.check(sailings, [("from", 0, last)], last), [last])
            self.assertIsNone(self.check(sailings, [("from", 0, last + 1)], last))
            self.assertEqual(least_schedule(sailings, [("from", 0, 200)], last), (None, [(0, 200, 0)]))
        self.assertEqual(least_schedule(sailings, [("from", 0, 48)])[0], [48])
        self.assertEqual(least_schedule(sailings, [("from", 0, 49)]), (None, [(0, 49, 0)]))
        self.assertEqual(least_schedule(sailings, [("from", 0, 49)], last=49)[0], [49])

    def test_gates_beyond_the_last_hour(self):
        sailings = [(0, 0)]
        # The next hour of the gate counts even if it lies after the last one.
        self.assertEqual(least_schedule(sailings, [("gate", 0, Gate([30]))], 9), (None, [(0, 30, 0)]))
        self.assertEqual(least_schedule(sailings, [("gate", 0, Gate([]))], 9), (None, [(0, 10, 0)]))
        self.assertEqual(least_schedule(sailings, [("bar", 0, Gate([30]))], 9), (None, [(0, 30, 0)]))
        orders = [("from", 0, 5), ("gate", 0, Gate([4]))]
        self.assertEqual(least_schedule(sailings, orders, 9), (None, [(0, 5, 0), (0, 10, 1)]))

    def test_bars_that_are_shrunk(self):
        orders = [("bar", 0, Gate([5, 6, 8, 9, 10]))]
        self.assertEqual(self.check([(2, 2)], orders), [3])
        self.assertEqual(self.check([(2, 3)], orders), [3])
        self.assertEqual(self.check([(2, 4)], orders), [6])
        self.assertIsNone(self.check([(2, 5)], orders))
        self.assertEqual(self.check([(6, 6)], orders), [0])
        self.assertEqual(self.check([(60, 60)], [("bar", 0, Gate([60]))]), [0])

    def test_rings_that_ask_for_ever_more(self):
        for last in (0, 1, 48, 96):
            self.assertIsNone(self.check([(0, 1), (0, 0)], [("after", 0, 1, 0), ("after", 1, 0, 0)], last))
            ring = [("with", 0, 1, -1), ("with", 1, 2, 0), ("with", 2, 0, 0)]
            self.assertIsNone(self.check([(1, 1)] * 3, ring, last))
            self.assertIsNone(self.check([(0, 2), (1, 1)], [("lands", 0, 1, 0), ("lands", 1, 0, 0)], last))
        ring = [("after", 0, 1, -1), ("after", 1, 0, -1)]
        self.assertEqual(self.check([(1, 1), (1, 1)], ring), [0, 0])

    def test_lifts_by_one(self):
        sailings = [(0, 0)] * 12
        orders = [("after", k, (k + 1) % 12, 1 if k == 11 else 0) for k in range(12)]
        schedule, lifts = least_schedule(sailings, orders, 96)
        self.assertIsNone(schedule)
        self.assertIsNone(self.check(sailings, orders, 96))
        self.assertGreater(len(lifts), 96)

    def test_many_sailings(self):
        found = {True: 0, False: 0}
        for seed in range(1200):
            sailings, orders = random_sailings(seed)
            last = 6 if seed % 3 else seed % 5
            schedule = self.check(sailings, orders, last)
            kept = [list(hours) for hours in itertools.product(range(last + 1), repeat=len(sailings))
                    if keeps(orders, sailings, hours)]
            if kept:
                # Each hour is the least possible at once.
                self.assertEqual(schedule, [min(column) for column in zip(*kept)])
            else:
                self.assertIsNone(schedule)
            found[bool(kept)] += 1
        self.assertGreater(min(found.values()), 300)

    def test_other_kinds_of_lists(self):
        orders = [("after", 0, 1, 1)]
        self.assertEqual(least_schedule(((1, 2), (0, 3)), tuple(orders)), ([0, 3], [(1, 3, 0)]))


class InvalidOrderTest(unittest.TestCase):
    def refuse(self, index, sailings, orders, *last):
        with self.assertRaises(InvalidOrder) as caught:
            least_schedule(sailings, orders, *last)
        self.assertEqual(caught.exception.index, index)
        self.assertIsInstance(caught.exception, FleetError)

    def test_wrong_orders(self):
        sailings = [(0, 0), (1, 2), (0, 1)]
        for order in wrong_orders(3):
            self.refuse(0, sailings, [order])
            self.refuse(1, sailings, [("from", 0, 0), order], 0)
            # An order that cannot be kept stands before the wrong one.
            self.refuse(1, sailings, [("by", 1, 0), order, order], 96)
        self.refuse(0, [], [("from", 0, 0)])


if __name__ == "__main__":
    unittest.main()
