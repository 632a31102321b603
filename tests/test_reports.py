"""Points 27 and 28: reports, the corridor that they leave, and those that a driving breaks."""

import itertools
import random
import unittest

from fogfleet.errors import FleetError, InvalidReport
from fogfleet.reports import Report, corridor_of, unmet
from tests.helpers import HUGE, all_places, line_chart, random_report


class ReportTest(unittest.TestCase):
    def told(self, report):
        return (report.ship, report.hour, report.zone, report.weight, report.inside)

    def test_attributes(self):
        report = Report(2, 7, [4, 1], weight=5, inside=False)
        self.assertEqual(self.told(report), (2, 7, (1, 4), 5, False))
        self.assertIs(report.inside, False)

    def test_weight_and_inside_left_out(self):
        report = Report(2, 7, [4, 1])
        self.assertEqual(self.told(report), (2, 7, (1, 4), 1, True))
        self.assertIs(report.inside, True)
        self.assertEqual(self.told(Report(2, 7, [4], weight=9)), (2, 7, (4,), 9, True))
        self.assertEqual(self.told(Report(2, 7, [4], inside=False)), (2, 7, (4,), 1, False))

    def test_weight_and_inside_are_passed_by_keyword(self):
        with self.assertRaises(TypeError):
            Report(2, 7, [4], 5)

    def test_zones_in_any_order(self):
        for zone in ([5, 0, 11, 3], (5, 0, 11, 3), [11, 5, 3, 0], (0, 3, 5, 11)):
            report = Report(0, 0, zone)
            self.assertEqual(report.zone, (0, 3, 5, 11))
            self.assertIs(type(report.zone), tuple)
        self.assertEqual(Report(0, 0, []).zone, ())
        self.assertEqual(Report(0, 0, ()).zone, ())
        self.assertEqual(Report(0, 0, list(range(12))[::-1]).zone, tuple(range(12)))

    def test_the_limits(self):
        for ship, hour, weight in itertools.product((0, 3), (0, 24), (1, 99)):
            for inside in (True, False):
                report = Report(ship, hour, [0, 11], weight=weight, inside=inside)
                self.assertEqual(self.told(report), (ship, hour, (0, 11), weight, inside))

    def refuse(self, part, ship, hour, zone, **more):
        with self.assertRaises(InvalidReport) as caught:
            Report(ship, hour, zone, **more)
        self.assertEqual(caught.exception.part, part)
        self.assertIsInstance(caught.exception, FleetError)

    def test_wrong_parts(self):
        for number in (-1, 4, HUGE, -HUGE):
            self.refuse("ship", number, 0, [0])
        for number in (-1, 25, HUGE, -HUGE):
            self.refuse("hour", 0, number, [0])
        for zone in ([-1], [12], [0, 12], [3, -1, 4], [HUGE], (0, 0), [3, 1, 3], [-1, -1],
                     list(range(13)), list(range(12)) + [0]):
            self.refuse("zone", 0, 0, zone)
        for number in (0, -1, 100, HUGE, -HUGE):
            self.refuse("weight", 0, 0, [0], weight=number)

    def test_the_first_wrong_part_is_named(self):
        order = ["ship", "hour", "zone", "weight"]
        wrong = {"ship": 4, "hour": 25, "zone": [1, 1], "weight": 100}
        right = {"ship": 3, "hour": 24, "zone": [1, 0], "weight": 99}
        for mask in range(1, 16):
            bad = [part for k, part in enumerate(order) if mask >> k & 1]
            parts = {part: (wrong if part in bad else right)[part] for part in order}
            for inside in (True, False):
                self.refuse(bad[0], parts["ship"], parts["hour"], parts["zone"],
                            weight=parts["weight"], inside=inside)

    def test_allows(self):
        for zone in ([], [0], [11, 0, 4], (7,), list(range(12))):
            within, without = Report(1, 2, zone), Report(1, 2, zone, inside=False)
            for place in range(12):
                self.assertIs(within.allows(place), place in zone)
                self.assertIs(without.allows(place), place not in zone)

    def test_later_changes_of_the_zone(self):
        zone = [3, 1]
        report = Report(0, 0, zone)
        zone.append(2)
        zone[0] = 9
        self.assertEqual(report.zone, (1, 3))
        self.assertTrue(report.allows(3))
        self.assertFalse(report.allows(2))


def slow_corridor(chart, horizon, reports, ship):
    return [[place for place in range(chart.size)
             if all((place in report.zone) == report.inside for report in reports
                    if report.ship == ship and report.hour == hour)]
            for hour in range(horizon + 1)]


class CorridorOfTest(unittest.TestCase):
    def test_no_report(self):
        chart = line_chart(4)
        self.assertEqual(corridor_of(chart, 0, [], 0), [[0, 1, 2, 3]])
        self.assertEqual(corridor_of(chart, 24, (), 3), all_places(chart, 25))

    def test_reports_about_one_hour(self):
        chart = line_chart(5)
        reports = [Report(0, 1, [0, 1, 2, 3]), Report(0, 1, [3, 4, 1]), Report(0, 1, [1], inside=False)]
        self.assertEqual(corridor_of(chart, 2, reports, 0), [[0, 1, 2, 3, 4], [3], [0, 1, 2, 3, 4]])
        self.assertEqual(corridor_of(chart, 1, reports + [Report(0, 1, [])], 0)[1], [])
        self.assertEqual(corridor_of(chart, 1, [Report(0, 1, [], inside=False)], 0)[1], [0, 1, 2, 3, 4])
        self.assertEqual(corridor_of(chart, 1, [Report(0, 1, range(5), inside=False)], 0)[1], [])

    def test_reports_about_other_ships(self):
        chart = line_chart(3)
        reports = [Report(0, 0, [0]), Report(1, 0, [1]), Report(3, 1, [2])]
        self.assertEqual(corridor_of(chart, 1, reports, 0), [[0], [0, 1, 2]])
        self.assertEqual(corridor_of(chart, 1, reports, 1), [[1], [0, 1, 2]])
        self.assertEqual(corridor_of(chart, 1, reports, 2), [[0, 1, 2], [0, 1, 2]])
        self.assertEqual(corridor_of(chart, 1, reports, 3), [[0, 1, 2], [2]])

    def test_reports_after_the_horizon(self):
        chart = line_chart(3)
        reports = [Report(0, 2, [0]), Report(0, 1, [1]), Report(0, 24, [])]
        self.assertEqual(corridor_of(chart, 1, reports, 0), [[0, 1, 2], [1]])
        self.assertEqual(corridor_of(chart, 0, reports, 0), [[0, 1, 2]])
        self.assertEqual(corridor_of(chart, 24, reports, 0)[24], [])

    def test_places_that_are_not_on_the_chart(self):
        chart = line_chart(3)
        reports = [Report(0, 0, [11, 2, 5]), Report(0, 1, [11, 2], inside=False), Report(0, 2, [7])]
        self.assertEqual(corridor_of(chart, 2, reports, 0), [[2], [0, 1], []])

    def test_many_cases(self):
        for seed in range(150):
            dice = random.Random(seed)
            chart = line_chart(dice.randint(1, 12))
            reports = [random_report(dice, 12, dice.randint(0, 1), 24)
                       for _ in range(dice.choice([0, 1, 5, 40]))]
            for horizon in (0, dice.randint(1, 23), 24):
                for ship in range(3):
                    expected = slow_corridor(chart, horizon, reports, ship)
                    self.assertEqual(corridor_of(chart, horizon, reports, ship), expected)
                    self.assertEqual(corridor_of(chart, horizon, tuple(reports), ship), expected)


class UnmetTest(unittest.TestCase):
    def test_indexes_in_the_whole_list(self):
        reports = [Report(1, 0, [9]), Report(0, 0, [9]), Report(0, 1, [1]), Report(0, 1, [1], inside=False),
                   Report(2, 0, []), Report(0, 2, [0, 3], inside=False)]
        self.assertEqual(unmet(reports, 0, [0, 1, 2]), [1, 3])
        self.assertEqual(unmet(tuple(reports), 0, [0, 1, 3]), [1, 3, 5])
        self.assertEqual(unmet(reports, 0, [9, 2, 2]), [2])
        self.assertEqual(unmet(reports, 1, [0, 1, 2]), [0])
        self.assertEqual(unmet(reports, 2, [9]), [4])
        self.assertEqual(unmet(reports, 3, [0, 1, 2]), [])

    def test_drivings_that_are_shorter_than_the_hours(self):
        reports = [Report(0, hour, [1]) for hour in (0, 1, 2, 24)]
        self.assertEqual(unmet(reports, 0, []), [])
        self.assertEqual(unmet(reports, 0, [0]), [0])
        self.assertEqual(unmet(reports, 0, [0, 0]), [0, 1])
        self.assertEqual(unmet(reports, 0, [0, 0, 0]), [0, 1, 2])
        self.assertEqual(unmet(reports, 0, [0] * 24), [0, 1, 2])
        self.assertEqual(unmet(reports, 0, [0] * 25), [0, 1, 2, 3])

    def test_one_report_at_two_places_of_the_list(self):
        report = Report(0, 0, [1])
        self.assertEqual(unmet([report, Report(1, 0, []), report], 0, [0]), [0, 2])
        self.assertEqual(unmet([report, report], 0, [1]), [])

    def test_no_report(self):
        self.assertEqual(unmet([], 0, [0, 1]), [])
        self.assertEqual(unmet((), 3, []), [])

    def test_places_that_are_not_on_the_chart(self):
        self.assertEqual(unmet([Report(0, 0, [11]), Report(0, 0, [11], inside=False)], 0, [2]), [0])

    def test_many_cases(self):
        for seed in range(200):
            dice = random.Random(seed)
            reports = [random_report(dice, 12, dice.randint(0, 2), 24)
                       for _ in range(dice.choice([0, 1, 5, 40]))]
            driving = [dice.randint(0, 11) for _ in range(dice.randint(0, 25))]
            for ship in range(3):
                expected = [index for index, report in enumerate(reports) if report.ship == ship
                            and report.hour < len(driving) and not report.allows(driving[report.hour])]
                self.assertEqual(unmet(reports, ship, driving), expected)


if __name__ == "__main__":
    unittest.main()
