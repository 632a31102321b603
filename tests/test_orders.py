"""Points 63 to 65: orders, those that do not hold, and legs that break them."""

import random
import unittest

from fogfleet.errors import FleetError, InvalidOrder
from fogfleet.gates import Gate
from fogfleet.orders import breaking_legs, broken, order_holds
from tests.sailings import all_legs, random_order, random_sailings, slow_holds, wrong_orders


class OrderHoldsTest(unittest.TestCase):
    def check_edge(self, order, schedule, legs, beyond):
        """The order holds exactly at the edge; `beyond` are schedules and legs one beyond it."""
        self.assertIs(order_holds(order, schedule, legs), True)
        for other, others in beyond:
            self.assertIs(order_holds(order, other, others), False)

    def test_after(self):
        self.check_edge(("after", 0, 1, 2), [3, 9], [4, 0], [([3, 8], [4, 0]), ([4, 9], [4, 0]), ([3, 9], [5, 0])])
        self.check_edge(("after", 1, 0, 0), [5, 3], [9, 2], [([4, 3], [9, 2])])
        self.check_edge(("after", 0, 1, -5), [3, 2], [4, 9], [([3, 1], [4, 9])])
        self.check_edge(("after", 0, 1, -60), [60, 0], [0, 0], [([60, 0], [1, 0])])
        self.check_edge(("after", 0, 1, 60), [0, 60], [0, 0], [([0, 59], [0, 0])])

    def test_with(self):
        self.check_edge(("with", 0, 1, 2), [3, 5], [9, 9], [([3, 6], [0, 0]), ([2, 5], [9, 9])])
        self.check_edge(("with", 1, 0, 0), [3, 3], [1, 2], [([4, 3], [1, 2])])
        self.check_edge(("with", 0, 1, -2), [3, 1], [0, 0], [([3, 2], [0, 0])])

    def test_lands(self):
        self.check_edge(("lands", 0, 1, 2), [3, 5], [4, 4], [([3, 6], [4, 4]), ([3, 5], [3, 4]), ([3, 5], [4, 5])])
        self.check_edge(("lands", 1, 0, -1), [1, 2], [2, 2], [([2, 2], [2, 2])])

    def test_by(self):
        self.check_edge(("by", 1, 7), [9, 3], [9, 4], [([9, 4], [9, 4]), ([9, 3], [9, 5])])
        self.check_edge(("by", 0, 0), [0], [0], [([1], [0]), ([0], [1])])
        self.check_edge(("by", 0, 200), [140], [60], [([141], [60])])

    def test_from(self):
        self.check_edge(("from", 1, 7), [0, 7], [0, 0], [([9, 6], [9, 9])])
        self.check_edge(("from", 0, 0), [0], [0], [])
        self.check_edge(("from", 0, 200), [200], [0], [([199], [60])])

    def test_gate(self):
        self.check_edge(("gate", 1, Gate([3, 5])), [9, 5], [1, 1],
                        [([9, 4], [1, 1]), ([5, 6], [0, 0]), ([3, 0], [0, 3])])
        self.check_edge(("gate", 0, Gate([0])), [0], [5], [([1], [0])])
        self.assertIs(order_holds(("gate", 0, Gate([])), [0], [0]), False)

    def test_bar(self):
        self.check_edge(("bar", 1, Gate([3, 5])), [9, 2], [9, 1],
                        [([9, 2], [9, 2]), ([3, 3], [0, 1]), ([9, 5], [9, 1])])
        self.assertIs(order_holds(("bar", 0, Gate([])), [0], [0]), False)

    def test_many_orders(self):
        found = set()
        for seed in range(600):
            dice = random.Random(seed)
            order = random_order(dice, 3)
            for _ in range(5):
                schedule = [dice.randint(0, 8) for _ in range(3)]
                legs = [dice.randint(0, 4) for _ in range(3)]
                expected = slow_holds(order, schedule, legs)
                self.assertIs(order_holds(order, schedule, legs), expected)
                found.add((order[0], expected))
        self.assertEqual(len(found), 14)


class BrokenTest(unittest.TestCase):
    def test_some_orders(self):
        orders = [("by", 0, 4), ("from", 1, 3), ("by", 0, 5), ("after", 0, 1, 0), ("by", 0, 4)]
        self.assertEqual(broken(orders, [2, 5], [3, 0]), [0, 4])
        self.assertEqual(broken(orders, [2, 4], [3, 0]), [0, 3, 4])
        self.assertEqual(broken(orders, [0, 3], [3, 0]), [])
        self.assertEqual(broken([], [0, 3], [3, 0]), [])
        self.assertEqual(broken([], [], []), [])
        self.assertEqual(broken(tuple(orders), (2, 2), (3, 0)), [0, 1, 3, 4])

    def test_many_orders(self):
        for seed in range(200):
            sailings, orders = random_sailings(seed)
            dice = random.Random(seed)
            schedule = [dice.randint(0, 8) for _ in sailings]
            legs = [dice.randint(low, high) for low, high in sailings]
            expected = [index for index, order in enumerate(orders) if not slow_holds(order, schedule, legs)]
            self.assertEqual(broken(orders, schedule, legs), expected)


class BreakingLegsTest(unittest.TestCase):
    def check(self, sailings, orders, schedule):
        first = next((index for index, order in enumerate(orders)
                      if not all(slow_holds(order, schedule, legs) for legs in all_legs(sailings))), None)
        answer = breaking_legs(sailings, orders, schedule)
        self.assertEqual(answer is None, first is None)
        if answer is not None:
            index, legs = answer
            self.assertIs(type(answer), tuple)
            self.assertIs(type(legs), list)
            self.assertEqual(index, first)
            self.assertIn(legs, all_legs(sailings))
            self.assertFalse(slow_holds(orders[index], schedule, legs))
        return first

    def test_some_orders(self):
        sailings = [(1, 4), (0, 2)]
        for orders, schedule, expected in (
                ([], [0, 0], None), ([("after", 0, 1, 0)], [0, 4], None), ([("after", 0, 1, 0)], [0, 3], 0),
                ([("lands", 0, 1, 0)], [1, 0], None), ([("lands", 0, 1, 0)], [0, 0], 0),
                ([("by", 0, 4), ("by", 1, 1)], [0, 0], 1), ([("by", 0, 3), ("by", 1, 1)], [0, 0], 0),
                ([("from", 0, 1)], [1, 0], None), ([("with", 0, 1, 1)], [0, 2], 0),
                ([("gate", 0, Gate([3]))], [3, 0], None),
                ([("bar", 0, Gate([1, 2, 3, 4]))], [0, 0], None), ([("bar", 0, Gate([1, 2, 4]))], [0, 0], 0),
                ([("bar", 0, Gate([2, 3, 4]))], [0, 0], 0), ([("bar", 0, Gate([1, 2, 3]))], [0, 0], 0),
                ([("bar", 1, Gate([0, 1, 2])), ("bar", 0, Gate([1]))], [0, 0], 1)):
            self.assertEqual(self.check(sailings, orders, schedule), expected)

    def test_no_sailings(self):
        self.assertIsNone(breaking_legs([], [], []))

    def test_many_sailings(self):
        found = set()
        for seed in range(800):
            sailings, orders = random_sailings(seed + 1000)
            dice = random.Random(seed)
            for _ in range(4):
                first = self.check(sailings, orders, [dice.randint(0, 7) for _ in sailings])
                found.add(None if first is None else orders[first][0])
        self.assertEqual(len(found), 8)


class InvalidOrderTest(unittest.TestCase):
    def refuse(self, index, sailings, orders, schedule):
        with self.assertRaises(InvalidOrder) as caught:
            breaking_legs(sailings, orders, schedule)
        self.assertEqual(caught.exception.index, index)
        self.assertIsInstance(caught.exception, FleetError)

    def test_wrong_orders(self):
        sailings = [(0, 0), (1, 2), (0, 1)]
        right, wrong_here = ("from", 0, 0), ("by", 1, 0)
        for order in wrong_orders(3):
            self.refuse(0, sailings, [order], [0, 0, 0])
            self.refuse(1, sailings, [right, order], [0, 0, 0])
            self.refuse(2, sailings, [right, right, order, right], [0, 0, 0])
            # An order that does not hold stands before the wrong one.
            self.refuse(1, sailings, [wrong_here, order], [0, 0, 0])
            self.refuse(0, sailings, [order, wrong_here, order], [0, 0, 0])
        self.refuse(1, sailings, [right, ("by", 3, 0), ("after", 0, 0, 0)], [0, 0, 0])
        self.refuse(0, [], [("from", 0, 0)], [])

    def test_the_greatest_number_is_right(self):
        self.assertIsNone(breaking_legs([(0, 0)] * 12, [("after", 11, 0, 0), ("by", 11, 0)], [0] * 12))


if __name__ == "__main__":
    unittest.main()
