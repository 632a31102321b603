"""Point 62: gates."""

import random
import unittest

from fogfleet.chart import Chart
from fogfleet.gates import Gate, tide_gate
from tests.helpers import HUGE, line_chart, random_chart


def random_hours(dice, greatest=200):
    hours = [hour for hour in range(greatest + 1) if dice.random() < dice.choice([0.05, 0.5, 0.9])]
    dice.shuffle(hours)
    return hours


class GateTest(unittest.TestCase):
    def test_hours(self):
        for hours in ([], [0], [200], [200, 0], [5, 3, 9, 4], list(range(200, -1, -1))):
            gate = Gate(hours)
            self.assertEqual(gate.hours, tuple(sorted(hours)))
            self.assertIs(type(gate.hours), tuple)

    def test_the_caller_keeps_its_list(self):
        hours = [5, 3, 9]
        gate = Gate(hours)
        self.assertEqual(hours, [5, 3, 9])
        hours.append(4)
        hours[0] = 7
        self.assertEqual(gate.hours, (3, 5, 9))
        self.assertNotIn(4, gate)
        self.assertEqual(gate.first_from(4), 5)

    def test_in(self):
        gate = Gate([0, 7, 200, 3])
        for hour in range(210):
            self.assertIs(hour in gate, hour in (0, 3, 7, 200))
        self.assertFalse(HUGE in gate)
        self.assertFalse(0 in Gate([]))

    def test_first_from(self):
        gate = Gate([7, 3, 200])
        for hour, expected in ((0, 3), (3, 3), (4, 7), (7, 7), (8, 200), (200, 200), (201, None), (HUGE, None)):
            self.assertEqual(gate.first_from(hour), expected)
        for hour in (0, 5, HUGE):
            self.assertIsNone(Gate([]).first_from(hour))
        self.assertEqual(Gate([0]).first_from(0), 0)

    def test_iteration(self):
        gate = Gate([7, 3, 200])
        self.assertEqual(list(gate), [3, 7, 200])
        self.assertEqual(list(gate), [3, 7, 200])
        self.assertEqual([(a, b) for a in gate for b in gate][:4], [(3, 3), (3, 7), (3, 200), (7, 3)])
        first, second = iter(gate), iter(gate)
        self.assertEqual([next(first), next(first), next(second), next(first), next(second)], [3, 7, 3, 200, 7])
        self.assertEqual(list(Gate([])), [])

    def test_both_and_either(self):
        first, second = Gate([1, 5, 3]), Gate([5, 0, 3, 9])
        self.assertEqual(first.both(second).hours, (3, 5))
        self.assertEqual(first.either(second).hours, (0, 1, 3, 5, 9))
        self.assertEqual((first.hours, second.hours), ((1, 3, 5), (0, 3, 5, 9)))
        for gate in (first, Gate([])):
            self.assertEqual(gate.both(Gate([])).hours, ())
            self.assertEqual(gate.either(Gate([])).hours, gate.hours)
            self.assertEqual(gate.both(gate).hours, gate.hours)
            self.assertEqual(gate.either(gate).hours, gate.hours)

    def test_shrunk(self):
        gate = Gate([0, 1, 2, 5, 6, 9])
        self.assertEqual(gate.shrunk(0, 0).hours, gate.hours)
        self.assertEqual(gate.shrunk(0, 1).hours, (0, 1, 5))
        self.assertEqual(gate.shrunk(1, 1).hours, (0, 1, 4, 5, 8))
        self.assertEqual(gate.shrunk(1, 2).hours, (0, 4))
        self.assertEqual(gate.shrunk(5, 6).hours, (0,))
        self.assertEqual(gate.shrunk(9, 9).hours, (0,))
        self.assertEqual(gate.shrunk(10, 10).hours, ())
        # An hour below 0 does not exist.
        self.assertEqual(gate.shrunk(2, 2).hours, (0, 3, 4, 7))
        self.assertEqual(Gate([]).shrunk(0, 0).hours, ())
        self.assertEqual(gate.hours, (0, 1, 2, 5, 6, 9))

    def test_shrunk_by_much(self):
        full = Gate(list(range(201)))
        self.assertEqual(full.shrunk(0, 60).hours, tuple(range(141)))
        self.assertEqual(full.shrunk(60, 60).hours, tuple(range(141)))
        self.assertEqual(full.shrunk(30, 60).hours, tuple(range(141)))
        self.assertEqual(Gate([60, 200]).shrunk(60, 60).hours, (0, 140))
        self.assertEqual(Gate(list(range(10, 71))).shrunk(0, 60).hours, (10,))
        self.assertEqual(Gate(list(range(10, 71))).shrunk(10, 60).hours, tuple(range(11)))

    def test_new_gates(self):
        gate = Gate([3, 1])
        for other in (gate.both(gate), gate.either(gate), gate.shrunk(0, 0)):
            self.assertIs(type(other), Gate)
            self.assertIsNot(other, gate)

    def test_many_gates(self):
        for seed in range(150):
            dice = random.Random(seed)
            greatest = dice.choice([10, 30, 200])
            hours, others = random_hours(dice, greatest), random_hours(dice, greatest)
            gate, other = Gate(hours), Gate(others)
            self.assertEqual(gate.both(other).hours, tuple(sorted(set(hours) & set(others))))
            self.assertEqual(gate.either(other).hours, tuple(sorted(set(hours) | set(others))))
            low = dice.choice([0, 0, 1, 3, 60])
            high = low + dice.choice([0, 0, 1, 2, 5])
            expected = [hour for hour in range(greatest + 1)
                        if {hour + delay for delay in range(low, high + 1)} <= set(hours)]
            self.assertEqual(gate.shrunk(low, high).hours, tuple(expected))
            for hour in range(0, greatest + 5, 3):
                self.assertEqual(gate.first_from(hour), min((at for at in hours if at >= hour), default=None))


class TideGateTest(unittest.TestCase):
    def test_some_gates(self):
        chart = Chart([5, 3], [(0, 1)], tide=(0, 2, 4))
        self.assertEqual(tide_gate(chart, 0, 7, 8).hours, (1, 2, 4, 5, 7, 8))
        self.assertEqual(tide_gate(chart, 1, 7, 8).hours, (2, 5, 8))
        self.assertEqual(tide_gate(chart, 1, 8, 8).hours, ())
        self.assertEqual(tide_gate(chart, 1, 0, 96).hours, tuple(range(97)))
        self.assertEqual(tide_gate(chart, 1, 200, 96).hours, ())
        self.assertEqual(tide_gate(chart, 0, 5, 0).hours, (0,))
        self.assertEqual(tide_gate(chart, 0, 6, 0).hours, ())
        self.assertEqual(tide_gate(chart, 1, 7, 96).hours, tuple(range(2, 97, 3)))
        self.assertIs(type(tide_gate(chart, 0, 5, 0)), Gate)

    def test_many_gates(self):
        for seed in range(40):
            chart = random_chart(seed)
            for place in range(chart.size):
                for draught in (0, 4, 7, 10, 200):
                    for last in (0, 1, 24, 96):
                        expected = [hour for hour in range(last + 1)
                                    if chart.depths[place] + chart.tide[hour % len(chart.tide)] >= draught]
                        self.assertEqual(tide_gate(chart, place, draught, last).hours, tuple(expected))

    def test_the_chart_stays_as_it_was(self):
        chart = line_chart(3, tide=(1, 2))
        tide_gate(chart, 0, 5, 9)
        self.assertEqual((chart.depths, chart.tide), ((5, 5, 5), (1, 2)))


if __name__ == "__main__":
    unittest.main()
