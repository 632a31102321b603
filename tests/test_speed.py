"""Point 82: calls at all limits at once return well under a second."""

import time
import unittest

from fogfleet.chart import Chart
from fogfleet.charttext import format_chart, parse_chart
from fogfleet.drivings import fits, fuel_along
from fogfleet.errors import BadText, DoesNotFit, NoSuchNumber
from fogfleet.lights import Light, flashes, sight_zone
from fogfleet.numbering import count_drivings, driving_at, number_of
from fogfleet.reach import first_driving, next_places, reach_hours
from fogfleet.ships import Ship, moves, step_lanes
from fogfleet.tables import need_table, possible_places, rich_table
from fogfleet.telling import agreeing_shifts, certain_light, readings, telling_length
from fogfleet.ways import arrivals, count_lanes, shortest_way, widest_way
from tests.helpers import all_pairs, all_places, full_chart, line_chart

HUGE = 10 ** 39 + 7
LIMIT = 0.5
TIDE = (20, 0, 19, 1, 18, 2, 17, 3, 16, 4, 15, 5)


class SpeedTest(unittest.TestCase):
    def quick(self, call):
        before = time.perf_counter()
        call()
        self.assertLess(time.perf_counter() - before, LIMIT)

    def charts(self):
        return [full_chart(depth=99, tide=TIDE), line_chart(depth=99, tide=TIDE)]

    def test_chart(self):
        self.quick(lambda: Chart([99] * 12, all_pairs(12), tide=TIDE, harbours=range(12)))
        for chart in self.charts():
            self.quick(lambda: [chart.water(11, HUGE), chart.low_water(11),
                                chart.neighbours(11), chart.is_harbour(11)])

    def test_ways(self):
        for chart in self.charts():
            for draught in (0, 101, 119, 200):
                self.quick(lambda: count_lanes(chart, 0, 11, draught, HUGE))
                self.quick(lambda: shortest_way(chart, 0, 11, draught, HUGE))
                self.quick(lambda: arrivals(chart, 0, draught, 0, 96))
            self.quick(lambda: widest_way(chart, 0, 11))

    def test_texts(self):
        text = format_chart(Chart([99] * 12, all_pairs(12), tide=TIDE, harbours=range(12)))
        self.quick(lambda: format_chart(parse_chart(text)))
        for wrong in (text + "\nlane 0 " + "9" * 100000, text + "\nlane" + " 0" * 50000,
                      "depths " + "9" * 100000, "\n" * 100000):
            self.quick(lambda: self.assertRaises(BadText, parse_chart, wrong))

    def test_steps(self):
        for chart in self.charts():
            for slow in range(4):
                ship = Ship(99, slow=slow, fast=3)
                self.quick(lambda: moves(chart, ship, HUGE, 5))
                self.quick(lambda: step_lanes(chart, ship, HUGE, 5, 8))

    def cases(self):
        """Charts, ships and corridors at all limits at once."""
        charts = self.charts()
        for harbours in (range(12), (0, 5)):
            charts.append(full_chart(depth=99, tide=TIDE, harbours=harbours))
            charts.append(line_chart(depth=99, tide=TIDE, harbours=harbours))
        for chart in charts:
            for slow in range(4):
                yield chart, Ship(99, slow=slow, fast=3), all_places(chart, 25)

    def test_drivings(self):
        for chart, ship, corridor in self.cases():
            for driving in ([0] * 25, list(range(12)) + list(range(13)), [0, 1] * 12 + [0]):
                self.quick(lambda: fuel_along(chart, ship, driving[:25]))
                self.quick(lambda: fits(chart, ship, corridor, driving[:25]))

    def test_tables(self):
        for chart, ship, corridor in self.cases():
            self.quick(lambda: rich_table(chart, ship, corridor))
            self.quick(lambda: need_table(chart, ship, corridor))
            self.quick(lambda: possible_places(chart, ship, corridor))

    def test_reach(self):
        for chart, ship, corridor in self.cases():
            driving = first_driving(chart, ship, corridor)
            self.quick(lambda: first_driving(chart, ship, corridor))
            if driving is not None:
                self.quick(lambda: next_places(chart, ship, corridor, driving[:24]))
                self.quick(lambda: reach_hours(chart, ship, corridor, [11]))
                self.quick(lambda: reach_hours(chart, ship, corridor, list(range(12))))

    def test_numbering(self):
        for chart, ship, corridor in self.cases():
            self.quick(lambda: count_drivings(chart, ship, corridor))
            count = count_drivings(chart, ship, corridor)
            self.quick(lambda: self.assertRaises(NoSuchNumber, driving_at, chart, ship, corridor, HUGE))
            self.quick(lambda: self.assertRaises(DoesNotFit, number_of, chart, ship, corridor, []))
            if count:
                self.quick(lambda: driving_at(chart, ship, corridor, count - 1))
                driving = driving_at(chart, ship, corridor, count - 1)
                self.quick(lambda: number_of(chart, ship, corridor, driving))

    def test_lights(self):
        light = Light(11, "*" * 11 + ".", reach=3)
        other = Light(0, "*" * 10 + ".", reach=3)
        lights = [light, other] * 4
        for chart in self.charts():
            self.quick(lambda: sight_zone(chart, light))
        self.quick(lambda: flashes(light, HUGE, 60))
        for first, second in ((light, other), (light, light), (light, Light(0, "*"))):
            self.quick(lambda: agreeing_shifts(first, second, 60))
            self.quick(lambda: telling_length(first, second))
        for word in ("", "*" * 60, flashes(light, 0, 60)):
            self.quick(lambda: readings(lights, word))
            self.quick(lambda: certain_light(lights, word))


if __name__ == "__main__":
    unittest.main()
