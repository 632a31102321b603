"""Points 22 and 23: lights, what they show, and from where they are visible."""

import unittest

from fogfleet.chart import Chart
from fogfleet.errors import FleetError, InvalidLight
from fogfleet.lights import Light, flashes, sight_zone
from tests.helpers import HUGE, full_chart, joined, line_chart, plain_sight, random_chart


class LightTest(unittest.TestCase):
    def told(self, light):
        return (light.place, light.pattern, light.reach)

    def test_attributes(self):
        self.assertEqual(self.told(Light(4, "**.", reach=2)), (4, "**.", 2))

    def test_reach_left_out(self):
        self.assertEqual(self.told(Light(4, ".")), (4, ".", 1))

    def test_reach_is_passed_by_keyword(self):
        with self.assertRaises(TypeError):
            Light(4, "*", 1)

    def test_the_limits(self):
        self.assertEqual(self.told(Light(0, "*", reach=0)), (0, "*", 0))
        self.assertEqual(self.told(Light(11, "." * 12, reach=3)), (11, "." * 12, 3))
        self.assertEqual(self.told(Light(11, "*." * 6, reach=3)), (11, "*." * 6, 3))

    def refuse(self, part, place, pattern, **more):
        with self.assertRaises(InvalidLight) as caught:
            Light(place, pattern, **more)
        self.assertEqual(caught.exception.part, part)
        self.assertIsInstance(caught.exception, FleetError)

    def test_wrong_places(self):
        for place in (-1, 12, -12, HUGE, -HUGE):
            self.refuse("place", place, "*.")

    def test_wrong_patterns(self):
        for pattern in ("", "*" * 13, "." * 13, "*.-", " *", "*. ", "x", "*\n", "*,", "**..o", "0"):
            self.refuse("pattern", 0, pattern)

    def test_wrong_reaches(self):
        for reach in (-1, 4, HUGE, -HUGE):
            self.refuse("reach", 0, "*", reach=reach)

    def test_the_first_wrong_part_is_named(self):
        wrong = {"place": 12, "pattern": "*x", "reach": 4}
        right = {"place": 11, "pattern": "*.", "reach": 3}
        order = ["place", "pattern", "reach"]
        for mask in range(1, 8):
            bad = [part for k, part in enumerate(order) if mask >> k & 1]
            parts = {part: (wrong if part in bad else right)[part] for part in order}
            self.refuse(bad[0], parts["place"], parts["pattern"], reach=parts["reach"])


class FlashesTest(unittest.TestCase):
    def test_example_of_the_document(self):
        self.assertEqual(flashes(Light(0, "**."), 2, 5), ".**.*")

    def test_counts(self):
        light = Light(0, "*..")
        self.assertEqual(flashes(light, 0, 0), "")
        self.assertEqual(flashes(light, 5, 0), "")
        self.assertEqual(flashes(light, 0, 1), "*")
        self.assertEqual(flashes(light, 1, 1), ".")
        self.assertEqual(flashes(light, 0, 60), "*.." * 20)
        self.assertEqual(flashes(light, 1, 60), "..*" * 20)
        self.assertEqual(flashes(Light(0, "*"), 7, 60), "*" * 60)

    def test_each_length_of_pattern(self):
        for length in range(1, 13):
            pattern = "*..*.**..***"[:length]
            for hour in range(30):
                expected = (pattern * 90)[hour:hour + 60]
                for count in (0, 1, 2, 11, 12, 13, 59, 60):
                    self.assertEqual(flashes(Light(3, pattern), hour, count), expected[:count])

    def test_great_hours(self):
        for length in range(1, 13):
            pattern = "*..*.**..***"[:length]
            for hour in (10 ** 40 - 1, HUGE, HUGE * 10, 4800, 10 ** 18):
                start = hour % length
                self.assertEqual(flashes(Light(3, pattern), hour, 60),
                                 (pattern * 90)[start:start + 60])


class SightZoneTest(unittest.TestCase):
    def test_each_reach(self):
        chart = line_chart(9)
        self.assertEqual(sight_zone(chart, Light(4, "*", reach=0)), [4])
        self.assertEqual(sight_zone(chart, Light(4, "*")), [3, 4, 5])
        self.assertEqual(sight_zone(chart, Light(4, "*", reach=2)), [2, 3, 4, 5, 6])
        self.assertEqual(sight_zone(chart, Light(4, "*", reach=3)), [1, 2, 3, 4, 5, 6, 7])
        self.assertEqual(sight_zone(chart, Light(0, "*", reach=3)), [0, 1, 2, 3])

    def test_depths_do_not_matter(self):
        chart = Chart([9, 0, 0, 9], [(0, 1), (1, 2), (2, 3)])
        self.assertEqual(sight_zone(chart, Light(0, "*", reach=3)), [0, 1, 2, 3])
        self.assertEqual(sight_zone(chart, Light(1, "*", reach=1)), [0, 1, 2])

    def test_places_that_no_lane_joins(self):
        chart = Chart([5] * 5, [(0, 3), (3, 4)])
        self.assertEqual(sight_zone(chart, Light(1, "*", reach=3)), [1])
        self.assertEqual(sight_zone(chart, Light(4, "*", reach=3)), [0, 3, 4])
        self.assertEqual(sight_zone(Chart([0], []), Light(0, "*", reach=3)), [0])

    def test_all_lanes(self):
        self.assertEqual(sight_zone(full_chart(), Light(11, "*")), list(range(12)))
        self.assertEqual(sight_zone(full_chart(), Light(11, "*", reach=0)), [11])

    def test_many_charts(self):
        for seed in range(80):
            chart = random_chart(seed, most=12)
            for place in range(chart.size):
                for reach in range(4):
                    light = Light(place, "*", reach=reach)
                    self.assertEqual(sight_zone(chart, light), plain_sight(chart, light))


if __name__ == "__main__":
    unittest.main()
