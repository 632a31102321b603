"""Points 3 and 8 to 11: ways on a chart."""

import unittest

from fogfleet.chart import Chart
from fogfleet.ways import arrivals, count_lanes, shortest_way, widest_way
from tests.helpers import (
    full_chart, is_way, line_chart, lists_in, random_chart, simple_ways, small_chart, spoil,
    water, ways_of,
)

HUGE = 10 ** 39 + 1


def reference_way(chart, start, goal, draught, hour):
    """The first way with the fewest lanes, found by listing all ways."""
    for lanes in range(chart.size):
        ways = ways_of(chart, start, goal, lanes, draught, hour)
        if ways:
            return min(ways)
    return None


class ShortestWayTest(unittest.TestCase):
    def test_examples_of_the_document(self):
        chart = small_chart()
        self.assertIsNone(count_lanes(chart, 0, 2, 4, 0))
        self.assertEqual(count_lanes(chart, 0, 2, 4, 1), 2)

    def test_by_position_by_keyword_and_left_out(self):
        chart = small_chart()
        self.assertEqual(count_lanes(chart, 0, 2), 2)
        self.assertEqual(shortest_way(chart, 0, 2), [0, 1, 2])
        self.assertIsNone(count_lanes(chart, 0, 2, 4))
        self.assertIsNone(shortest_way(chart, 0, 2, draught=4))
        self.assertEqual(count_lanes(chart, 0, 2, hour=1, draught=5), 2)
        self.assertIsNone(count_lanes(chart, 0, 2, hour=1, draught=6))
        self.assertEqual(shortest_way(chart, 2, 0, 5, hour=1), [2, 1, 0])
        self.assertEqual(shortest_way(chart, 0, 2, hour=0), [0, 1, 2])

    def test_start_equal_to_goal(self):
        chart = small_chart()
        self.assertEqual(count_lanes(chart, 1, 1, 3, 0), 0)
        self.assertEqual(shortest_way(chart, 1, 1, 3, 0), [1])
        self.assertIsNone(count_lanes(chart, 1, 1, 4, 0))
        self.assertIsNone(shortest_way(chart, 1, 1, 4, 0))
        self.assertEqual(count_lanes(Chart([0], []), 0, 0), 0)

    def test_both_ends_need_water(self):
        chart = Chart([2, 9, 9], [(0, 1), (1, 2)])
        self.assertIsNone(count_lanes(chart, 0, 2, 3))
        self.assertIsNone(count_lanes(chart, 2, 0, 3))
        self.assertEqual(count_lanes(chart, 0, 2, 2), 2)

    def test_no_way(self):
        chart = Chart([5] * 4, [(0, 1), (2, 3)])
        self.assertIsNone(count_lanes(chart, 0, 3))
        self.assertIsNone(shortest_way(chart, 0, 3))

    def test_a_detour_around_shallow_water(self):
        chart = Chart([9, 1, 9, 9, 9], [(0, 1), (1, 4), (0, 2), (2, 3), (3, 4)])
        self.assertEqual(shortest_way(chart, 0, 4), [0, 1, 4])
        self.assertEqual(shortest_way(chart, 0, 4, 2), [0, 2, 3, 4])

    def test_the_first_of_several_shortest_ways(self):
        lanes = [(0, 3), (0, 2), (0, 1), (1, 5), (2, 4), (3, 4), (4, 6), (5, 6)]
        self.assertEqual(shortest_way(Chart([5] * 7, lanes), 0, 6), [0, 1, 5, 6])
        lanes = [(0, 3), (0, 2), (1, 3), (1, 4), (2, 5), (3, 5), (0, 1), (4, 5)]
        self.assertEqual(shortest_way(Chart([5] * 6, lanes), 0, 5), [0, 2, 5])

    def test_great_draughts_and_hours(self):
        chart = Chart([99, 99], [(0, 1)], tide=(20, 0, 3))
        hour = 3 * 10 ** 38
        self.assertEqual(count_lanes(chart, 0, 1, 119, hour), 1)
        self.assertIsNone(count_lanes(chart, 0, 1, 119, hour + 1))
        self.assertIsNone(count_lanes(chart, 0, 1, 120, hour))
        self.assertIsNone(shortest_way(chart, 0, 1, 200, hour))

    def test_twelve_places(self):
        line, full = line_chart(), full_chart()
        for start in range(12):
            for goal in range(12):
                step = 1 if start <= goal else -1
                self.assertEqual(count_lanes(line, start, goal), abs(goal - start))
                self.assertEqual(shortest_way(line, start, goal),
                                 list(range(start, goal + step, step)))
                self.assertEqual(count_lanes(full, start, goal), int(start != goal))
                self.assertEqual(shortest_way(full, start, goal),
                                 [start] if start == goal else [start, goal])

    def test_many_charts(self):
        for seed in range(60):
            chart = random_chart(seed, most=5)
            for draught, hour in ((0, 0), (4, seed), (8, seed + 1)):
                for start in range(chart.size):
                    for goal in range(chart.size):
                        way = reference_way(chart, start, goal, draught, hour)
                        lanes = None if way is None else len(way) - 1
                        self.assertEqual(shortest_way(chart, start, goal, draught, hour), way)
                        self.assertEqual(count_lanes(chart, start, goal, draught, hour), lanes)

    def test_the_list_is_new(self):
        chart = small_chart()
        spoil(shortest_way(chart, 0, 2))
        self.assertEqual(shortest_way(chart, 0, 2), [0, 1, 2])


class WidestWayTest(unittest.TestCase):
    def check(self, chart, start, goal):
        ways = simple_ways(chart, start, goal)
        answer = widest_way(chart, start, goal)
        if not ways:
            self.assertIsNone(answer)
            return
        self.assertIs(type(answer), tuple)
        draught, way, cut = answer
        lows = [depth + min(chart.tide) for depth in chart.depths]
        self.assertEqual(draught, max(min(lows[place] for place in found) for found in ways))
        self.assertIn(way, ways)
        self.assertGreaterEqual(min(lows[place] for place in way), draught)
        self.assertEqual(cut, sorted(set(cut)))
        self.assertTrue(all(lows[place] <= draught for place in cut))
        for found in ways:
            self.assertTrue(set(found) & set(cut))
        if start == goal:
            self.assertEqual((way, cut), ([start], [start]))

    def test_example_of_the_document(self):
        self.assertEqual(widest_way(small_chart(), 0, 2), (3, [0, 1, 2], [1]))

    def test_no_way(self):
        self.assertIsNone(widest_way(Chart([5, 5, 5], [(0, 1)]), 0, 2))
        self.assertIsNone(widest_way(Chart([5, 5], []), 1, 0))

    def test_start_equal_to_goal(self):
        chart = Chart([5, 3, 3], [(0, 1)], tide=(4, 2))
        self.assertEqual(widest_way(chart, 1, 1), (5, [1], [1]))
        self.assertEqual(widest_way(chart, 0, 0), (7, [0], [0]))
        self.assertEqual(widest_way(Chart([0], []), 0, 0), (0, [0], [0]))

    def test_low_water_counts_not_the_water_at_an_hour(self):
        chart = Chart([5, 6, 7], [(0, 1), (1, 2)], tide=(9, 1, 4))
        self.assertEqual(widest_way(chart, 1, 2)[0], 7)

    def test_a_wider_detour(self):
        chart = Chart([9, 1, 5, 6, 9], [(0, 1), (1, 4), (0, 2), (2, 3), (3, 4)])
        draught, way, _ = widest_way(chart, 0, 4)
        self.assertEqual((draught, way), (5, [0, 2, 3, 4]))
        self.check(chart, 0, 4)

    def test_many_charts(self):
        for seed in range(120):
            chart = random_chart(seed)
            for start in range(chart.size):
                for goal in range(chart.size):
                    self.check(chart, start, goal)

    def test_twelve_places(self):
        depths = [8, 7, 3, 9, 6, 5, 5, 9, 4, 8, 7, 9]
        line = Chart(depths, [(k, k + 1) for k in range(11)])
        for start in range(12):
            for goal in range(12):
                self.check(line, start, goal)
        draught, way, cut = widest_way(full_chart(depth=4), 3, 9)
        self.assertEqual((draught, way[0], way[-1]), (4, 3, 9))
        self.assertTrue({3, 9} & set(cut))

    def test_lists_are_new_and_different(self):
        chart = small_chart()
        for start, goal in ((0, 2), (1, 1)):
            answer = widest_way(chart, start, goal)
            self.assertEqual(len({id(found) for found in lists_in(answer)}), 2)
            before = widest_way(chart, start, goal)
            spoil(answer)
            self.assertEqual(widest_way(chart, start, goal), before)


def reference_arrivals(chart, start, draught, hour, last):
    """Follows the set of places where the boat can be, hour by hour."""
    hours = [None] * chart.size
    places = {start}
    for now in range(hour, last + 1):
        for place in places:
            if hours[place] is None:
                hours[place] = now
        further = set(places)
        for low, high in chart.lanes:
            if min(water(chart, low, now), water(chart, high, now)) >= draught:
                further |= {high} if low in places else set()
                further |= {low} if high in places else set()
        places = further
    return hours


class ArrivalsTest(unittest.TestCase):
    def test_example_of_the_document(self):
        self.assertEqual(arrivals(small_chart(), 0, 4), [0, 2, 4])

    def test_without_need_of_water(self):
        self.assertEqual(arrivals(line_chart(5), 1), [1, 0, 1, 2, 3])

    def test_one_lane_in_each_hour(self):
        self.assertEqual(arrivals(line_chart(12), 0), list(range(12)))
        self.assertEqual(arrivals(full_chart(4), 2, 5, 7), [8, 8, 7, 8])

    def test_waiting_for_the_tide(self):
        chart = Chart([1, 1, 1], [(0, 1), (1, 2)], tide=(0, 0, 0, 5))
        self.assertEqual(arrivals(chart, 0, 4, 0, 24), [0, 4, 8])
        self.assertEqual(arrivals(chart, 0, 4, 3, 24), [3, 4, 8])
        self.assertEqual(arrivals(chart, 0, 4, 4, 24), [4, 8, 12])

    def test_the_last_hour_is_included(self):
        chart = Chart([1, 1, 1], [(0, 1), (1, 2)], tide=(0, 0, 0, 5))
        self.assertEqual(arrivals(chart, 0, 4, 0, 8), [0, 4, 8])
        self.assertEqual(arrivals(chart, 0, 4, 0, 7), [0, 4, None])
        self.assertEqual(arrivals(chart, 0, 4, 0, 3), [0, None, None])

    def test_last_equal_to_hour(self):
        self.assertEqual(arrivals(small_chart(), 1, 0, 5, 5), [None, 5, None])
        self.assertEqual(arrivals(small_chart(), 1, hour=96, last=96), [None, 96, None])
        self.assertEqual(arrivals(small_chart(), 1, last=0), [None, 0, None])

    def test_the_start_may_have_too_little_water(self):
        chart = Chart([1, 9], [(0, 1)], tide=(0, 0, 4))
        self.assertEqual(arrivals(chart, 0, 5), [0, 3])
        self.assertEqual(arrivals(chart, 0, 6), [0, None])

    def test_the_other_end_needs_water_when_the_boat_leaves(self):
        # At hour 1 place 1 has water, but the boat leaves at hour 0 or at hour 1.
        chart = Chart([9, 1], [(0, 1)], tide=(0, 5))
        self.assertEqual(arrivals(chart, 0, 5), [0, 2])

    def test_the_last_hour_that_is_left_out_is_24(self):
        tide = (0,) * 11 + (5,)
        chart = Chart([0] * 4, [(0, 1), (1, 2), (2, 3)], tide=tide)
        self.assertEqual(arrivals(chart, 0, 5), [0, 12, 24, None])
        self.assertEqual(arrivals(chart, 0, 5, last=36), [0, 12, 24, 36])

    def test_places_that_are_never_reached(self):
        chart = Chart([5, 5, 1, 5], [(0, 1), (1, 2), (2, 3)])
        self.assertEqual(arrivals(chart, 0, 5, 0, 96), [0, 1, None, None])
        self.assertEqual(arrivals(chart, 0, 200, 0, 96), [0, None, None, None])

    def test_many_charts(self):
        for seed in range(80):
            chart = random_chart(seed)
            for draught, hour, last in ((0, 0, 24), (5, 3, 9), (7, 90, 96), (8, 2, 96)):
                for start in range(chart.size):
                    self.assertEqual(arrivals(chart, start, draught, hour, last),
                                     reference_arrivals(chart, start, draught, hour, last))

    def test_the_list_is_new(self):
        chart = small_chart()
        spoil(arrivals(chart, 0, 4))
        self.assertEqual(arrivals(chart, 0, 4), [0, 2, 4])


class BeyondLimitsTest(unittest.TestCase):
    def test_somewhat_greater_values_raise_no_error(self):
        chart = small_chart()
        self.assertIsNone(count_lanes(chart, 0, 2, 201))
        self.assertIsNone(shortest_way(chart, 0, 2, 250, HUGE))
        self.assertEqual(arrivals(chart, 0, 201, 100, 120), [100, None, None])
        self.assertEqual(arrivals(chart, 0, 4, 100, 120), [100, 102, 104])


if __name__ == "__main__":
    unittest.main()
