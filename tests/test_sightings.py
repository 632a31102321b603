"""Point 26: lights that were seen, and the reports that follow from them."""

import random
import unittest

from fogfleet.chart import Chart
from fogfleet.errors import InvalidReport
from fogfleet.lights import Light
from fogfleet.reports import Report, corridor_of
from fogfleet.sightings import flash_reports, flash_zone, lights_seen
from tests.helpers import HUGE, line_chart, plain_sight, random_chart


def slow_word(light, hour, count):
    start = hour % len(light.pattern)
    return (light.pattern * 73)[start:start + count]


def random_light(dice, size):
    pattern = "".join(dice.choice("*.") for _ in range(dice.randint(1, 4)))
    return Light(dice.randrange(size), pattern, reach=dice.randint(0, 3))


class LightsSeenTest(unittest.TestCase):
    def test_lights_that_show_the_word_and_lights_that_do_not(self):
        lights = [Light(0, "*."), Light(1, "*.."), Light(2, "**"), Light(3, ".*")]
        self.assertEqual(lights_seen(lights, 0, "*"), [0, 1, 2])
        self.assertEqual(lights_seen(lights, 0, "*."), [0, 1])
        self.assertEqual(lights_seen(lights, 1, "*."), [3])
        self.assertEqual(lights_seen(lights, 1, ".*"), [0])
        self.assertEqual(lights_seen(lights, 2, "*.*"), [0])
        self.assertEqual(lights_seen(lights, 0, "..."), [])
        self.assertEqual(lights_seen(tuple(lights), 3, "*."), [1, 3])

    def test_no_lights(self):
        self.assertEqual(lights_seen([], 0, ""), [])
        self.assertEqual(lights_seen((), 5, "*"), [])

    def test_the_empty_word(self):
        self.assertEqual(lights_seen([Light(0, "*"), Light(1, ".")], 3, ""), [0, 1])

    def test_one_light_twice(self):
        light = Light(0, "*.")
        self.assertEqual(lights_seen([light, Light(0, "."), light], 0, "*"), [0, 2])

    def test_long_words_and_great_hours(self):
        lights = [Light(0, "*.."), Light(1, "*..*..*..*.*"), Light(2, "*..*..*..*..")]
        self.assertEqual(lights_seen(lights, 0, "*.." * 20), [0, 2])
        self.assertEqual(lights_seen(lights, 1, ("*.." * 21)[1:61]), [0, 2])
        self.assertEqual(lights_seen(lights, 3, "*.." * 19 + "*.*"), [])
        for hour in (HUGE, 10 ** 40 - 1, 10 ** 18):
            word = slow_word(lights[1], hour, 60)
            self.assertEqual(lights_seen(lights, hour, word), [1])

    def test_many_lights(self):
        for seed in range(300):
            dice = random.Random(seed)
            lights = [random_light(dice, 12) for _ in range(dice.randint(0, 8))]
            hour = dice.choice([0, 1, 7, 10 ** 39 + dice.randrange(99)])
            for count in range(4):
                word = "".join(dice.choice("*.") for _ in range(count))
                expected = [index for index, light in enumerate(lights)
                            if slow_word(light, hour, count) == word]
                self.assertEqual(lights_seen(lights, hour, word), expected)


class FlashZoneTest(unittest.TestCase):
    def test_each_reach(self):
        chart = line_chart(9)
        zones = [[4], [3, 4, 5], [2, 3, 4, 5, 6], [1, 2, 3, 4, 5, 6, 7]]
        for reach, zone in enumerate(zones):
            self.assertEqual(flash_zone(chart, [Light(4, "*", reach=reach)], 5, "**"), zone)

    def test_only_lights_that_show_the_word_count(self):
        chart = line_chart(9)
        lights = [Light(8, "*."), Light(0, "*.", reach=0), Light(4, ".*", reach=3)]
        self.assertEqual(flash_zone(chart, lights, 0, "*"), [0, 7, 8])
        self.assertEqual(flash_zone(chart, lights, 1, "*"), [1, 2, 3, 4, 5, 6, 7])
        self.assertEqual(flash_zone(chart, lights, 0, "**"), [])
        self.assertEqual(flash_zone(chart, tuple(lights), HUGE + 1, "*"), [0, 7, 8])
        self.assertEqual(flash_zone(chart, lights, 0, ""), list(range(9)))

    def test_no_lights_and_one_light_twice(self):
        chart = line_chart(9)
        self.assertEqual(flash_zone(chart, [], 0, ""), [])
        light = Light(3, "*.")
        self.assertEqual(flash_zone(chart, [light, light], 0, "*.*"), [2, 3, 4])
        self.assertEqual(flash_zone(chart, [light, light], 1, "*.*"), [])

    def test_several_parts_and_shallow_places(self):
        chart = Chart([0] * 6, [(0, 1), (1, 2), (4, 5)])
        lights = [Light(5, "*", reach=3), Light(3, "*", reach=3), Light(0, "*.", reach=1)]
        self.assertEqual(flash_zone(chart, lights, 1, "*"), [3, 4, 5])
        self.assertEqual(flash_zone(chart, lights, 0, "*"), [0, 1, 3, 4, 5])

    def test_many_charts(self):
        for seed in range(200):
            dice = random.Random(seed)
            chart = random_chart(seed, most=12)
            lights = [random_light(dice, chart.size) for _ in range(dice.randint(0, 8))]
            for hour, word in ((0, ""), (1, "*"), (2, ".*"), (10 ** 39, "*.")):
                zones = [plain_sight(chart, light) for light in lights
                         if slow_word(light, hour, len(word)) == word]
                expected = sorted({place for zone in zones for place in zone})
                self.assertEqual(flash_zone(chart, lights, hour, word), expected)


class FlashReportsTest(unittest.TestCase):
    def told(self, reports):
        return [(report.ship, report.hour, report.zone, report.weight, report.inside)
                for report in reports]

    def test_one_report_for_each_character(self):
        chart = line_chart(9)
        lights = [Light(4, "*.."), Light(0, "*")]
        reports = flash_reports(chart, lights, 2, 3, "*..")
        self.assertEqual(self.told(reports), [(2, hour, (3, 4, 5), 1, True) for hour in (3, 4, 5)])
        self.assertIs(type(reports), list)
        self.assertIsInstance(reports[0], Report)

    def test_the_weight(self):
        chart, lights = line_chart(3), [Light(1, "*", reach=0)]
        self.assertEqual(self.told(flash_reports(chart, lights, 0, 0, "*", 99)), [(0, 0, (1,), 99, True)])
        self.assertEqual(self.told(flash_reports(chart, lights, 0, 0, "*", weight=7)),
                         [(0, 0, (1,), 7, True)])
        self.assertEqual(self.told(flash_reports(chart, lights, 0, 0, "*")), [(0, 0, (1,), 1, True)])

    def test_the_empty_zone(self):
        chart = line_chart(3)
        reports = flash_reports(chart, [Light(1, "*")], 1, 5, "..*", 4)
        self.assertEqual(self.told(reports), [(1, hour, (), 4, True) for hour in (5, 6, 7)])
        self.assertEqual(corridor_of(chart, 7, reports, 1)[5:], [[], [], []])
        self.assertEqual(self.told(flash_reports(chart, [], 1, 0, ".")), [(1, 0, (), 1, True)])

    def test_the_empty_word(self):
        self.assertEqual(flash_reports(line_chart(3), [Light(1, "*")], 1, 5, ""), [])
        self.assertEqual(flash_reports(line_chart(3), [], 1, 24, "", 5), [])

    def test_the_last_hour(self):
        chart = line_chart(3)
        reports = flash_reports(chart, [Light(1, "*", reach=0)], 3, 0, "*" * 25)
        self.assertEqual(self.told(reports), [(3, hour, (1,), 1, True) for hour in range(25)])
        reports = flash_reports(chart, [Light(1, "*", reach=0)], 3, 24, "*")
        self.assertEqual(self.told(reports), [(3, 24, (1,), 1, True)])

    def test_wrong_ships_and_weights(self):
        chart, lights = line_chart(3), [Light(1, "*")]
        for part, ship, weight in (("ship", 4, 1), ("ship", -1, 1), ("weight", 0, 0), ("weight", 0, 100)):
            with self.assertRaises(InvalidReport) as caught:
                flash_reports(chart, lights, ship, 0, "*", weight)
            self.assertEqual(caught.exception.part, part)


if __name__ == "__main__":
    unittest.main()
