"""Points 30 to 32: what must be disbelieved, the table that proves it, and the reports to blame."""

import itertools
import random
import unittest

from fogfleet.chart import Chart
from fogfleet.disbelief import reason, strength
from fogfleet.reports import Report
from fogfleet.ships import Ship
from tests.helpers import (all_places, fitting, fuel_walked, full_chart, line_chart, random_chart,
                           random_report, random_ship, split_drivings, walks)

CASES = 150


def random_reports(dice, chart, horizon):
    """Reports about two ships; some have places off the chart or hours after the horizon."""
    return [random_report(dice, chart.size + 1, dice.choice([0, 2, 2]), horizon + 1)
            for _ in range(dice.choice([0, 1, 2, 3, 5, 8]))]


def random_question(seed):
    """A chart, a ship, a horizon, reports, a ship number, and an hour with a zone."""
    dice = random.Random(seed)
    chart = random_chart(seed, most=4)
    horizon = dice.randint(0, 3)
    zone = [place for place in range(chart.size) if dice.random() < 0.4]
    return (chart, random_ship(dice), horizon, random_reports(dice, chart, horizon), 2,
            dice.randint(0, horizon), dice.choice([zone, zone[::-1], tuple(zone)]))


def cost_of(reports, number, places, first=0):
    """The weights of the unmet reports about places that begin at this hour."""
    return sum(report.weight for report in reports
               if report.ship == number and first <= report.hour < first + len(places)
               and not report.allows(places[report.hour - first]))


def broken_by(reports, number, places):
    return [index for index, report in enumerate(reports) if report.ship == number
            and report.hour < len(places) and not report.allows(places[report.hour])]


def slow_floor(chart, ship, horizon, reports, number, hour, zone, now, place, fuel):
    """The item of point 31 by trying all ways to go on."""
    steps = [walks(chart, ship, t) for t in range(horizon)]
    costs = []
    for rest in itertools.product(range(chart.size), repeat=horizon - now):
        places = (place,) + rest
        if now <= hour and places[hour - now] in zone:
            continue
        if fuel_walked(chart, ship, places, steps, now, fuel) is not None:
            costs.append(cost_of(reports, number, places, now))
    return min(costs, default=None)


def slow_reason(chart, ship, horizon, reports, number, hour, zone):
    drivings = split_drivings(fitting(chart, ship, all_places(chart, horizon + 1)), hour, zone)[1]

    def certain(kept):
        return not any(all(reports[index].hour > horizon or
                           reports[index].allows(driving[reports[index].hour]) for index in kept)
                       for driving in drivings)

    kept = [index for index, report in enumerate(reports) if report.ship == number]
    if not certain(kept):
        return None
    for index in list(kept):
        if certain([other for other in kept if other != index]):
            kept.remove(index)
    return kept


class StrengthTest(unittest.TestCase):
    def test_an_ordinary_question(self):
        chart, ship = line_chart(3), Ship(0)
        reports = [Report(0, 0, [0], weight=5), Report(1, 1, [0]), Report(0, 1, [2], weight=3),
                   Report(0, 1, [2, 1], weight=4), Report(0, 2, [2], inside=False)]
        cost, indexes, driving, floors = strength(chart, ship, 2, reports, 0, 1, [1])
        self.assertEqual((cost, indexes, driving), (5, [0], [1, 2, 1]))
        cost, indexes, driving, floors = strength(chart, ship, 2, reports, 0, 1, [2, 1])
        self.assertEqual((cost, indexes, driving), (7, [2, 3], [0, 0, 0]))
        self.assertEqual(strength(chart, ship, 2, reports, 1, 1, [1])[:3], (0, [], [0, 0, 0]))
        self.assertEqual(strength(chart, ship, 2, reports, 1, 1, [0])[:3], (1, [1], [0, 1, 0]))

    def test_no_driving_against_the_question(self):
        chart, ship = line_chart(3), Ship(0)
        for zone in ([0, 1, 2], (2, 0, 1)):
            self.assertIsNone(strength(chart, ship, 2, [], 0, 1, zone))
            self.assertIsNone(strength(chart, ship, 0, [Report(0, 0, [])], 0, 0, zone))
        # Without fuel the ship cannot move, and it has to.
        self.assertIsNone(strength(chart, Ship(0, slow=1, tank=0), 1, [], 0, 0, []))
        self.assertIsNone(strength(chart, Ship(9, slow=1), 1, [], 0, 1, [0]))

    def test_the_empty_zone_and_no_reports(self):
        chart, ship = line_chart(3), Ship(0)
        self.assertEqual(strength(chart, ship, 1, [], 0, 0, [])[:3], (0, [], [0, 0]))
        self.assertEqual(strength(chart, ship, 1, (), 3, 0, ())[:3], (0, [], [0, 0]))
        self.assertEqual(strength(chart, ship, 1, [Report(0, 1, [])], 0, 0, [])[:3], (1, [0], [0, 0]))

    def test_the_first_driving_of_the_least_cost(self):
        chart, ship = full_chart(4), Ship(0)
        reports = [Report(0, 1, [0], inside=False, weight=2), Report(0, 2, [3])]
        self.assertEqual(strength(chart, ship, 2, reports, 0, 0, [0])[:3], (0, [], [1, 1, 3]))
        self.assertEqual(strength(chart, ship, 2, reports, 0, 2, [3])[:3], (1, [1], [0, 1, 0]))

    def test_indexes_stand_for_places_in_the_whole_list(self):
        chart, ship = line_chart(2), Ship(0)
        report = Report(1, 0, [])
        reports = [Report(0, 0, []), report, Report(2, 0, []), report, Report(1, 3, [])]
        self.assertEqual(strength(chart, ship, 1, reports, 1, 0, [])[:3], (2, [1, 3], [0, 0]))
        self.assertEqual(strength(chart, ship, 1, reports, 0, 0, [])[:3], (1, [0], [0, 0]))
        self.assertEqual(strength(chart, ship, 1, reports, 3, 0, [])[:3], (0, [], [0, 0]))
        self.assertEqual(strength(chart, ship, 3, reports, 1, 0, [])[:2], (3, [1, 3, 4]))

    def test_reports_after_the_horizon(self):
        chart, ship = line_chart(2), Ship(0)
        reports = [Report(0, hour, [], weight=hour + 1) for hour in range(25)]
        for horizon in range(25):
            cost, indexes, driving, floors = strength(chart, ship, horizon, reports, 0, 0, [])
            self.assertEqual(cost, (horizon + 1) * (horizon + 2) // 2)
            self.assertEqual(indexes, list(range(horizon + 1)))
            self.assertEqual([floors[t][0][8] for t in range(horizon + 1)],
                             [sum(range(t + 1, horizon + 2)) for t in range(horizon + 1)])

    def test_floors_of_an_ordinary_question(self):
        chart, ship = line_chart(2), Ship(0, tank=1)
        reports = [Report(0, 0, [0]), Report(0, 1, [1], weight=7), Report(1, 1, [0])]
        floors = strength(chart, ship, 1, reports, 0, 0, [1])[3]
        self.assertEqual(floors, [[[7, 0], [None, None]], [[7, 7], [0, 0]]])
        floors = strength(chart, ship, 1, reports, 0, 1, [1])[3]
        self.assertEqual(floors, [[[7, 7], [None, 8]], [[7, 7], [None, None]]])
        floors = strength(chart, ship, 1, reports, 0, 1, [])[3]
        self.assertEqual(floors, [[[7, 0], [1, 1]], [[7, 7], [0, 0]]])

    def test_no_filling_takes_place_at_the_hour_of_an_item(self):
        chart, ship = line_chart(3, harbours=(0, 1)), Ship(0, slow=1, tank=2)
        floors = strength(chart, ship, 2, [Report(0, 0, [])], 0, 0, [])[3]
        self.assertEqual(floors[0], [[None, 1, 1], [None, 1, 1], [None, 1, 1]])
        self.assertEqual(floors[1], [[None, 0, 0], [None, 0, 0], [None, 0, 0]])
        chart = line_chart(3, harbours=(1,))
        floors = strength(chart, Ship(0, slow=2, fast=2, tank=2), 1, [], 0, 0, [])[3]
        self.assertEqual(floors[0], [[None, None, 0]] * 3)

    def test_the_question_binds_only_up_to_its_hour(self):
        chart, ship = line_chart(2), Ship(0, fast=0, tank=0)
        floors = strength(chart, ship, 2, [Report(0, 2, [1], weight=4)], 0, 1, [1])[3]
        self.assertEqual(floors, [[[4], [None]], [[4], [None]], [[4], [0]]])

    def test_a_tank_of_0(self):
        chart, ship = line_chart(3), Ship(0, tank=0)
        cost, indexes, driving, floors = strength(chart, ship, 2, [Report(0, 1, [2])], 0, 0, [2])
        self.assertEqual((cost, indexes, driving), (1, [0], [0, 0, 0]))
        self.assertEqual(floors, [[[1], [1], [None]], [[1], [1], [0]], [[0], [0], [0]]])

    def test_the_fuel_at_the_start(self):
        chart = line_chart(3, harbours=(2,))
        reports = [Report(0, 0, [0], weight=5), Report(0, 1, [1], weight=9)]
        self.assertEqual(strength(chart, Ship(0, fuel=0), 1, reports, 0, 0, [])[:3], (5, [0], [1, 1]))
        self.assertEqual(strength(chart, Ship(0, fuel=0), 1, reports, 0, 0, [1])[:3], (5, [0], [2, 1]))
        self.assertEqual(strength(chart, Ship(0, fuel=1), 1, reports, 0, 0, [])[:3], (0, [], [0, 1]))

    def test_the_form_of_floors(self):
        chart = line_chart(5)
        floors = strength(chart, Ship(0, tank=3), 4, [], 0, 2, [1])[3]
        self.assertEqual([len(floors), {len(row) for row in floors}], [5, {5}])
        self.assertEqual({len(items) for row in floors for items in row}, {4})

    def test_many_cases(self):
        found = set()
        for seed in range(CASES):
            question = random_question(seed)
            self.check(*question)
            found.add(strength(*question) is None)
        self.assertEqual(found, {True, False})

    def check(self, chart, ship, horizon, reports, number, hour, zone):
        answer = strength(chart, ship, horizon, reports, number, hour, zone)
        drivings = fitting(chart, ship, all_places(chart, horizon + 1))
        opposing = split_drivings(drivings, hour, zone)[1]
        if not opposing:
            self.assertIsNone(answer)
            return
        # The drivings ascend, and of equal ones min takes the first.
        best = min(opposing, key=lambda driving: cost_of(reports, number, driving))
        self.assertEqual(answer[0], cost_of(reports, number, best))
        self.assertEqual(answer[1], broken_by(reports, number, best))
        self.assertEqual(answer[2], list(best))
        for now, place in itertools.product(range(horizon + 1), range(chart.size)):
            expected = [slow_floor(chart, ship, horizon, reports, number, hour, zone, now, place, fuel)
                        for fuel in range(ship.tank + 1)]
            self.assertEqual(answer[3][now][place], expected)


class ReasonTest(unittest.TestCase):
    def test_none(self):
        chart, ship = line_chart(3), Ship(0)
        self.assertIsNone(reason(chart, ship, 2, [], 0, 1, [1]))
        self.assertIsNone(reason(chart, ship, 2, [], 0, 1, []))
        reports = [Report(0, 0, [0]), Report(0, 2, [0, 1])]
        self.assertIsNone(reason(chart, ship, 2, reports, 0, 1, [1]))
        self.assertIsNone(reason(chart, ship, 2, reports, 0, 1, []))

    def test_the_empty_list(self):
        chart, ship = line_chart(3), Ship(0)
        reports = [Report(0, 0, [0]), Report(0, 1, [])]
        self.assertEqual(reason(chart, ship, 2, reports, 0, 1, [0, 1, 2]), [])
        self.assertEqual(reason(chart, ship, 2, [], 0, 1, (2, 1, 0)), [])
        self.assertEqual(reason(chart, Ship(0, slow=1, tank=0), 2, reports, 0, 1, []), [])

    def test_an_ordinary_reason(self):
        chart, ship = line_chart(5), Ship(0)
        reports = [Report(0, 0, [1, 2, 3]), Report(1, 0, []), Report(0, 0, [0]), Report(0, 2, [2])]
        self.assertEqual(reason(chart, ship, 2, reports, 0, 1, [1, 2, 3]), [3])
        self.assertEqual(reason(chart, ship, 2, reports[:1] + reports[3:], 0, 1, [1, 2, 3]), [1])
        self.assertEqual(reason(chart, ship, 2, reports, 0, 1, [1]), [2, 3])
        self.assertEqual(reason(chart, ship, 2, tuple(reports), 1, 1, [1]), [1])

    def test_the_first_of_several_reports_are_left_out(self):
        chart, ship = line_chart(3), Ship(0)
        reports = [Report(0, 1, [0]), Report(0, 1, [1], inside=False), Report(0, 1, [0]),
                   Report(0, 1, [2, 0])]
        self.assertEqual(reason(chart, ship, 2, reports, 0, 1, [0]), [2])
        self.assertEqual(reason(chart, ship, 2, reports, 0, 1, [0, 2]), [3])
        reports = [Report(0, 1, [0]), Report(0, 1, [2], inside=False), Report(0, 1, [2, 0])]
        self.assertEqual(reason(chart, ship, 2, reports, 0, 1, [0]), [1, 2])
        self.assertEqual(reason(chart, ship, 2, reports[::-1], 0, 1, [0]), [2])

    def test_a_contradiction_among_the_reports(self):
        chart, ship = line_chart(5), Ship(0)
        reports = [Report(0, 0, [0]), Report(0, 2, [2, 3]), Report(0, 1, [0, 1]), Report(0, 2, [3, 4])]
        self.assertEqual(reason(chart, ship, 2, reports, 0, 0, []), [2, 3])
        self.assertEqual(reason(chart, ship, 2, [reports[0], reports[3]], 0, 0, []), [0, 1])
        self.assertEqual(reason(chart, ship, 1, [Report(0, 1, [])], 0, 0, []), [0])
        self.assertEqual(reason(chart, ship, 1, [Report(0, 1, []), Report(0, 0, [1]), Report(0, 0, [2])],
                                0, 1, []), [1, 2])

    def test_reports_after_the_horizon_and_about_other_ships(self):
        chart, ship = line_chart(3), Ship(0)
        reports = [Report(0, 3, []), Report(1, 1, []), Report(0, 1, [1]), Report(0, 24, []),
                   Report(1, 0, [1])]
        self.assertEqual(reason(chart, ship, 2, reports, 0, 1, [1]), [2])
        self.assertIsNone(reason(chart, ship, 2, reports, 0, 1, [0]))
        self.assertEqual(reason(chart, ship, 3, reports, 0, 1, [0]), [0])
        self.assertEqual(reason(chart, ship, 2, reports, 1, 1, [1]), [1])
        self.assertEqual(reason(chart, ship, 0, reports, 1, 0, [1]), [4])
        self.assertIsNone(reason(chart, ship, 2, reports, 2, 1, [1]))

    def test_places_that_are_not_on_the_chart(self):
        chart, ship = line_chart(3), Ship(0)
        self.assertEqual(reason(chart, ship, 0, [Report(0, 0, [11, 1])], 0, 0, [1]), [0])
        self.assertEqual(reason(chart, ship, 0, [Report(0, 0, [11, 3])], 0, 0, []), [0])

    def test_40_reports(self):
        chart, ship = line_chart(3), Ship(0)
        reports = [Report(0, 1, [0, 1, 2]) for _ in range(38)] + [Report(0, 1, [1])] * 2
        self.assertEqual(reason(chart, ship, 24, reports, 0, 1, [1]), [39])

    def test_many_cases(self):
        lengths = set()
        for seed in range(CASES * 3):
            question = random_question(seed)
            for zone in (question[-1], []):
                expected = slow_reason(*question[:-1], zone)
                self.assertEqual(reason(*question[:-1], zone), expected)
                lengths.add(None if expected is None else len(expected))
        self.assertLessEqual({None, 0, 1, 2}, lengths)

    def test_harbours_count(self):
        chart = Chart([5] * 4, [(0, 1), (1, 2), (2, 3)], harbours=(1,))
        reports = [Report(0, 0, [0]), Report(0, 3, [3])]
        self.assertIsNone(reason(chart, Ship(0, tank=2, fuel=1), 3, reports, 0, 0, []))
        self.assertEqual(reason(chart, Ship(0, tank=1), 3, reports, 0, 0, []), [0, 1])


if __name__ == "__main__":
    unittest.main()
