"""Points 60 and 61: the hours and speeds of legs, drivings along a way, and voyages."""

import itertools
import unittest

from fogfleet.chart import Chart
from fogfleet.errors import FleetError, NoWay
from fogfleet.legs import leg_driving, leg_hours, leg_speeds, voyage
from fogfleet.ships import Ship
from tests.helpers import line_chart, random_chart, simple_ways

SPEEDS = [(slow, fast) for slow in (1, 2, 3) for fast in (1, 2, 3) if slow <= fast]


def lasts(length, speeds):
    """Whether a leg takes exactly as many hours as there are speeds."""
    if length == 0:
        return not speeds
    return bool(speeds) and sum(speeds[:-1]) < length <= sum(speeds)


def slow_speeds(length, slow, fast, hours):
    """The least list of speeds, found by trying all lists in ascending order."""
    for speeds in itertools.product(range(slow, fast + 1), repeat=hours):
        if lasts(length, speeds):
            return list(speeds)
    return None


class LegHoursTest(unittest.TestCase):
    def test_example(self):
        self.assertEqual(leg_hours(5, 1, 2), (3, 5))

    def test_no_lanes(self):
        for slow, fast in SPEEDS:
            self.assertEqual(leg_hours(0, slow, fast), (0, 0))

    def test_all_lengths(self):
        for length in range(41):
            for slow, fast in SPEEDS:
                answer = leg_hours(length, slow, fast)
                self.assertIs(type(answer), tuple)
                for hours, speed in zip(answer, (fast, slow)):
                    # So many hours suffice, and one hour less does not.
                    self.assertGreaterEqual(hours * speed, length)
                    self.assertLess((hours - 1) * speed, max(length, 1))
                    self.assertIs(type(hours), int)

    def test_the_hours_are_those_for_which_there_are_speeds(self):
        for length in range(41):
            for slow, fast in SPEEDS:
                low, high = leg_hours(length, slow, fast)
                found = [hours for hours in range(101) if leg_speeds(length, slow, fast, hours) is not None]
                self.assertEqual(found, list(range(low, high + 1)))


class LegSpeedsTest(unittest.TestCase):
    def test_example(self):
        self.assertEqual(leg_speeds(5, 1, 2, 4), [1, 1, 1, 2])

    def test_some_legs(self):
        self.assertEqual(leg_speeds(5, 1, 2, 3), [1, 2, 2])
        self.assertEqual(leg_speeds(5, 1, 2, 5), [1] * 5)
        self.assertIsNone(leg_speeds(5, 1, 2, 2))
        self.assertIsNone(leg_speeds(5, 1, 2, 6))
        # The last number may go beyond the end of the way.
        self.assertEqual(leg_speeds(5, 2, 3, 3), [2, 2, 2])
        self.assertEqual(leg_speeds(1, 3, 3, 1), [3])
        self.assertEqual(leg_speeds(7, 1, 3, 3), [1, 3, 3])
        self.assertEqual(leg_speeds(40, 1, 3, 14), [1] + [3] * 13)
        self.assertEqual(leg_speeds(40, 1, 1, 40), [1] * 40)

    def test_no_lanes(self):
        for slow, fast in SPEEDS:
            self.assertEqual(leg_speeds(0, slow, fast, 0), [])
            for hours in (1, 2, 100):
                self.assertIsNone(leg_speeds(0, slow, fast, hours))
            for length in (1, 40):
                self.assertIsNone(leg_speeds(length, slow, fast, 0))

    def test_all_short_lists(self):
        for length in range(22):
            for slow, fast in SPEEDS:
                for hours in range(8):
                    self.assertEqual(leg_speeds(length, slow, fast, hours),
                                     slow_speeds(length, slow, fast, hours), (length, slow, fast, hours))

    def test_all_lengths_and_hours(self):
        for length in range(41):
            for slow, fast in SPEEDS:
                low, high = leg_hours(length, slow, fast)
                for hours in range(101):
                    speeds = leg_speeds(length, slow, fast, hours)
                    if not low <= hours <= high:
                        self.assertIsNone(speeds)
                        continue
                    self.assertEqual(len(speeds), hours)
                    self.assertTrue(lasts(length, speeds))
                    self.assertTrue(all(slow <= speed <= fast for speed in speeds))
                    self.check_least(length, slow, fast, speeds)

    def check_least(self, length, slow, fast, speeds):
        """No list that is less at some place before can be completed."""
        for at, speed in enumerate(speeds):
            for less in range(slow, speed):
                rest, hours = length - sum(speeds[:at]) - less, len(speeds) - at - 1
                low, high = leg_hours(max(rest, 0), slow, fast)
                self.assertFalse(low <= hours <= high if rest > 0 else hours == 0)


class LegDrivingTest(unittest.TestCase):
    def test_ways(self):
        way = [3, 1, 4, 1, 5]
        self.assertEqual(leg_driving(way, [1, 1, 1, 1]), way)
        self.assertEqual(leg_driving(way, [2, 2]), [3, 4, 5])
        self.assertEqual(leg_driving(way, [1, 3]), [3, 1, 5])
        self.assertEqual(leg_driving(way, [3, 3]), [3, 1, 5])
        self.assertEqual(leg_driving(way, [2, 3, 1, 1]), [3, 4, 5, 5, 5])
        self.assertEqual(leg_driving(way, [1, 1]), [3, 1, 4])
        self.assertEqual(leg_driving(way, []), [3])
        self.assertEqual(leg_driving(tuple(way), (3,)), [3, 1])

    def test_a_way_of_one_place(self):
        self.assertEqual(leg_driving([7], []), [7])
        self.assertEqual(leg_driving([7], [1, 3]), [7, 7, 7])

    def test_many_speeds(self):
        way = [k % 12 for k in range(41)]
        self.assertEqual(leg_driving(way, [1] * 50), way + [way[-1]] * 10)
        self.assertEqual(leg_driving(way, [3] * 50), way[::3] + [way[-1]] * 37)

    def test_a_leg_ends_in_its_last_hour(self):
        for length in range(1, 20):
            way = list(range(length + 1))
            for slow, fast in SPEEDS:
                low, high = leg_hours(length, slow, fast)
                for hours in range(low, high + 1):
                    places = leg_driving(way, leg_speeds(length, slow, fast, hours))
                    self.assertEqual(len(places), hours + 1)
                    self.assertEqual(places.index(length), hours)


class VoyageTest(unittest.TestCase):
    def refuse(self, leg, chart, ship, stops):
        with self.assertRaises(NoWay) as caught:
            voyage(chart, ship, stops)
        self.assertEqual(caught.exception.leg, leg)
        self.assertIsInstance(caught.exception, FleetError)

    def test_one_stop(self):
        chart = line_chart(3)
        self.assertEqual(voyage(chart, Ship(5, slow=1), [1]), [])
        # Without a leg there is nothing that needs water.
        self.assertEqual(voyage(chart, Ship(6, slow=1), [1]), [])

    def test_some_stops(self):
        chart = line_chart(12)
        self.assertEqual(voyage(chart, Ship(5, slow=1, fast=3), [0, 11, 10, 3]), [(4, 11), (1, 1), (3, 7)])
        self.assertEqual(voyage(chart, Ship(5, slow=2, fast=2), (0, 5)), [(3, 3)])
        self.assertEqual(voyage(chart, Ship(5, slow=1), [0, 11] * 6), [(11, 11)] * 11)

    def test_two_stops_alike(self):
        chart = Chart([5, 4], [(0, 1)])
        self.assertEqual(voyage(chart, Ship(5, slow=1), [0, 0, 0]), [(0, 0), (0, 0)])
        self.refuse(0, chart, Ship(5, slow=1), [1, 1])
        self.assertEqual(voyage(chart, Ship(4, slow=1), [1, 1, 0]), [(0, 0), (1, 1)])

    def test_no_way(self):
        chart = Chart([5, 5, 4, 5, 5], [(0, 1), (1, 2), (2, 3), (3, 4)])
        ship = Ship(5, slow=1)
        self.refuse(0, chart, ship, [0, 3, 4])
        self.refuse(1, chart, ship, [0, 1, 3, 0])
        self.refuse(2, chart, ship, [0, 1, 0, 4])
        self.refuse(0, chart, ship, [2, 0])
        self.refuse(0, chart, ship, [0, 2, 2])
        self.refuse(10, chart, ship, [0, 1] * 5 + [0, 4])
        self.refuse(0, chart, Ship(99, slow=1), [0, 1])

    def test_low_water_counts(self):
        # At hour 0 the water at place 1 is high, but its low water is 3.
        chart = Chart([5, 3, 5, 5], [(0, 1), (1, 2), (0, 3), (2, 3)], tide=(2, 0, 1))
        self.assertEqual(voyage(chart, Ship(3, slow=1), [0, 1, 2]), [(1, 1), (1, 1)])
        self.refuse(0, chart, Ship(4, slow=1), [0, 1])
        self.assertEqual(voyage(chart, Ship(4, slow=1), [0, 2]), [(2, 2)])
        # The least number of the tide belongs to the low water of each place.
        chart = Chart([3, 3], [(0, 1)], tide=(2, 4))
        self.assertEqual(voyage(chart, Ship(5, slow=1), [0, 1]), [(1, 1)])
        self.refuse(0, chart, Ship(6, slow=1), [0, 1])

    def test_fuel_does_not_count(self):
        self.assertEqual(voyage(line_chart(12), Ship(0, slow=3, fast=3, tank=0), [0, 11]), [(4, 4)])

    def test_many_charts(self):
        refused = 0
        for seed in range(60):
            chart = random_chart(seed, most=5)
            for draught in (0, 3, 6, 9):
                ship = Ship(draught, slow=1 + seed % 2, fast=2 + seed % 2)
                for stops in itertools.product(range(chart.size), repeat=2):
                    lengths = [len(way) - 1 for way in simple_ways(chart, *stops)
                               if all(chart.depths[place] + min(chart.tide) >= draught for place in way)]
                    if lengths:
                        self.assertEqual(voyage(chart, ship, stops), [leg_hours(min(lengths), ship.slow, ship.fast)])
                    else:
                        self.refuse(0, chart, ship, stops)
                        refused += 1
        self.assertGreater(refused, 100)


if __name__ == "__main__":
    unittest.main()
