"""Points 4 to 7: the chart."""

import unittest

from fogfleet.chart import Chart
from fogfleet.errors import FleetError, InvalidChart
from tests.helpers import all_pairs, full_chart, small_chart, spoil

HUGE = 10 ** 39 + 1


class ChartAttributesTest(unittest.TestCase):
    def test_example_of_the_document(self):
        chart = small_chart()
        self.assertEqual(chart.lanes, ((0, 1), (1, 2)))
        self.assertEqual(chart.water(1, 3), 5)

    def test_attributes(self):
        chart = Chart([5, 3, 8, 0], [(3, 1), (2, 0), (0, 1), (3, 0)], tide=[4, 1], harbours=[3, 0])
        self.assertEqual(chart.depths, (5, 3, 8, 0))
        self.assertEqual(chart.lanes, ((0, 1), (0, 2), (0, 3), (1, 3)))
        self.assertEqual(chart.tide, (4, 1))
        self.assertEqual(chart.harbours, (0, 3))
        self.assertEqual(chart.size, 4)
        for value in (chart.depths, chart.lanes, chart.tide, chart.harbours, chart.lanes[0]):
            self.assertIs(type(value), tuple)

    def test_what_may_be_left_out(self):
        chart = Chart([7], [])
        self.assertEqual((chart.tide, chart.harbours, chart.lanes), ((0,), (), ()))
        self.assertEqual(chart.size, 1)

    def test_tide_and_harbours_are_passed_by_keyword(self):
        with self.assertRaises(TypeError):
            Chart([7], [], (0,))

    def test_lists_and_tuples_give_the_same_chart(self):
        first = Chart([1, 2, 3], [(2, 1), (0, 2)], tide=[1, 0], harbours=[2, 1])
        second = Chart((1, 2, 3), ((0, 2), (1, 2)), tide=(1, 0), harbours=(1, 2))
        for name in ("depths", "lanes", "tide", "harbours", "size"):
            self.assertEqual(getattr(first, name), getattr(second, name))

    def test_the_least_and_the_greatest_chart(self):
        Chart([0], [], tide=[0], harbours=[0])
        chart = Chart([99] * 12, all_pairs(12), tide=[20] * 12, harbours=range(12))
        self.assertEqual(len(chart.lanes), 66)
        self.assertEqual(chart.harbours, tuple(range(12)))
        self.assertEqual(chart.water(11, HUGE), 119)


class WaterTest(unittest.TestCase):
    def test_water_follows_the_tide(self):
        chart = Chart([5, 0], [], tide=[3, 1, 0, 2])
        self.assertEqual([chart.water(0, hour) for hour in range(6)], [8, 6, 5, 7, 8, 6])
        self.assertEqual([chart.water(1, hour) for hour in range(6)], [3, 1, 0, 2, 3, 1])

    def test_low_water_takes_the_least_number_wherever_it_stands(self):
        self.assertEqual(Chart([5], [], tide=[3, 1, 2]).low_water(0), 6)
        self.assertEqual(Chart([5], [], tide=[2, 3, 1]).low_water(0), 6)
        self.assertEqual(Chart([4, 9], [], tide=[7]).low_water(1), 16)
        self.assertEqual(Chart([4, 9], []).low_water(0), 4)

    def test_tides_of_each_length_at_great_hours(self):
        for length in range(1, 13):
            tide = [(7 * k + 5) % 21 for k in range(length)]
            chart = Chart([10, 1], [], tide=tide)
            for hour in (0, 1, 11, 12, 13, 97, 1000, HUGE, HUGE + 5):
                self.assertEqual(chart.water(0, hour), 10 + tide[hour % length])
            self.assertEqual(chart.low_water(1), 1 + min(tide))


class NeighboursTest(unittest.TestCase):
    def test_neighbours_in_ascending_order(self):
        chart = Chart([1] * 5, [(4, 2), (2, 0), (3, 2), (0, 4)])
        self.assertEqual([chart.neighbours(place) for place in range(5)],
                         [[2, 4], [], [0, 3, 4], [2], [0, 2]])

    def test_all_lanes(self):
        chart = full_chart()
        for place in range(12):
            self.assertEqual(chart.neighbours(place), [k for k in range(12) if k != place])

    def test_is_harbour(self):
        chart = Chart([1] * 4, [], harbours=(3, 0))
        answers = [chart.is_harbour(place) for place in range(4)]
        self.assertEqual(answers, [True, False, False, True])
        for answer in answers:
            self.assertIsInstance(answer, bool)


class OwnCopiesTest(unittest.TestCase):
    def test_a_caller_may_change_what_it_passed(self):
        depths, lanes, tide, harbours = [5, 3, 8], [(1, 0), (2, 1)], [2, 0], [2, 0]
        chart = Chart(depths, lanes, tide=tide, harbours=harbours)
        self.assertEqual((depths, lanes, tide, harbours),
                         ([5, 3, 8], [(1, 0), (2, 1)], [2, 0], [2, 0]))
        for passed in (depths, lanes, tide, harbours):
            passed.clear()
        self.assertEqual((chart.depths, chart.lanes), ((5, 3, 8), ((0, 1), (1, 2))))
        self.assertEqual((chart.tide, chart.harbours, chart.size), ((2, 0), (0, 2), 3))
        self.assertEqual([chart.water(0, 0), chart.low_water(0)], [7, 5])
        self.assertEqual(chart.neighbours(1), [0, 2])
        self.assertTrue(chart.is_harbour(2))

    def test_a_caller_may_change_what_was_returned(self):
        chart = small_chart()
        spoil(chart.neighbours(1))
        self.assertEqual(chart.neighbours(1), [0, 2])
        self.assertIsNot(chart.neighbours(1), chart.neighbours(1))


class InvalidChartTest(unittest.TestCase):
    def refuse(self, part, depths, lanes, **more):
        with self.assertRaises(InvalidChart) as caught:
            Chart(depths, lanes, **more)
        self.assertEqual(caught.exception.part, part)
        self.assertIsInstance(caught.exception, FleetError)

    def test_depths(self):
        for depths in ([], [1] * 13, [-1], [100], [5, 3, -1], [100, 5], [HUGE], [-HUGE], ()):
            self.refuse("depths", depths, [])

    def test_lanes(self):
        wrong = [
            [(0, 0)], [(2, 2)], [(0, 3)], [(3, 0)], [(-1, 0)], [(1, -1)], [(3, 4)], [(-2, -1)],
            [(0, 1), (0, 1)], [(0, 1), (1, 0)], [(2, 1), (0, 1), (1, 2)], [(0, HUGE)],
            ((0, 1), (1, 2), (1, 1)),
        ]
        for lanes in wrong:
            self.refuse("lanes", [5, 3, 8], lanes)
        self.refuse("lanes", [5], [(0, 0)])
        self.refuse("lanes", [5] * 12, [(0, 12)])
        self.refuse("lanes", [5] * 12, all_pairs(12) + [(11, 10)])

    def test_tide(self):
        for tide in ([], (), [0] * 13, [-1], [21], [0, 3, 21], [5, -1, 3], [HUGE]):
            self.refuse("tide", [5, 3], [(0, 1)], tide=tide)

    def test_harbours(self):
        for harbours in ([2], [-1], [0, 0], [1, 0, 1], (0, 1, 2), [HUGE]):
            self.refuse("harbours", [5, 3], [(0, 1)], harbours=harbours)

    def test_the_first_wrong_part_is_named(self):
        wrong = {
            "depths": [5, 3, 100], "lanes": [(0, 1), (1, 0)], "tide": [21], "harbours": [0, 0],
        }
        right = {"depths": [5, 3, 99], "lanes": [(0, 1)], "tide": [20], "harbours": [0]}
        order = ["depths", "lanes", "tide", "harbours"]
        for mask in range(1, 16):
            bad = [part for k, part in enumerate(order) if mask >> k & 1]
            parts = {part: (wrong if part in bad else right)[part] for part in order}
            self.refuse(bad[0], parts["depths"], parts["lanes"],
                        tide=parts["tide"], harbours=parts["harbours"])


if __name__ == "__main__":
    unittest.main()
