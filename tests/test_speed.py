"""Point 82: calls at all limits at once return well under a second."""

import time
import unittest

from fogfleet.chart import Chart
from fogfleet.charttext import format_chart, parse_chart
from fogfleet.errors import BadText
from fogfleet.ships import Ship, moves, step_lanes
from fogfleet.ways import arrivals, count_lanes, shortest_way, widest_way
from tests.helpers import all_pairs, full_chart, line_chart

HUGE = 10 ** 39 + 7
LIMIT = 0.5
TIDE = (20, 0, 19, 1, 18, 2, 17, 3, 16, 4, 15, 5)


class SpeedTest(unittest.TestCase):
    def quick(self, call):
        before = time.perf_counter()
        call()
        self.assertLess(time.perf_counter() - before, LIMIT)

    def charts(self):
        return [full_chart(depth=99, tide=TIDE), line_chart(depth=99, tide=TIDE)]

    def test_chart(self):
        self.quick(lambda: Chart([99] * 12, all_pairs(12), tide=TIDE, harbours=range(12)))
        for chart in self.charts():
            self.quick(lambda: [chart.water(11, HUGE), chart.low_water(11),
                                chart.neighbours(11), chart.is_harbour(11)])

    def test_ways(self):
        for chart in self.charts():
            for draught in (0, 101, 119, 200):
                self.quick(lambda: count_lanes(chart, 0, 11, draught, HUGE))
                self.quick(lambda: shortest_way(chart, 0, 11, draught, HUGE))
                self.quick(lambda: arrivals(chart, 0, draught, 0, 96))
            self.quick(lambda: widest_way(chart, 0, 11))

    def test_texts(self):
        text = format_chart(Chart([99] * 12, all_pairs(12), tide=TIDE, harbours=range(12)))
        self.quick(lambda: format_chart(parse_chart(text)))
        for wrong in (text + "\nlane 0 " + "9" * 100000, text + "\nlane" + " 0" * 50000,
                      "depths " + "9" * 100000, "\n" * 100000):
            self.quick(lambda: self.assertRaises(BadText, parse_chart, wrong))

    def test_steps(self):
        for chart in self.charts():
            for slow in range(4):
                ship = Ship(99, slow=slow, fast=3)
                self.quick(lambda: moves(chart, ship, HUGE, 5))
                self.quick(lambda: step_lanes(chart, ship, HUGE, 5, 8))


if __name__ == "__main__":
    unittest.main()
