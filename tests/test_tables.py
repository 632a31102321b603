"""Points 18 and 19: the rich table, the need table and the possible places."""

import itertools
import unittest

from fogfleet.ships import Ship
from fogfleet.tables import need_table, possible_places, rich_table
from tests.helpers import (all_places, fitting, fuel_at_start, fuel_walked, line_chart,
                           random_case, small_chart, walks)

CASES = 250


def slow_rich(chart, ship, corridor, steps, hour, place):
    """The greatest fuel at the place at the hour, over all lists of places before it."""
    found = [None]
    for before in itertools.product(*corridor[:hour]):
        places = before + (place,)
        if place in corridor[hour]:
            found.append(fuel_walked(chart, ship, places, steps, 0,
                                     fuel_at_start(chart, ship, places[0])))
    return max([fuel for fuel in found if fuel is not None], default=None)


def slow_need(chart, ship, corridor, steps, hour, place):
    """The least fuel with which some list of places after it is possible."""
    if place in corridor[hour]:
        for fuel in range(ship.tank + 1):
            for after in itertools.product(*corridor[hour + 1:]):
                places = (place,) + after
                if fuel_walked(chart, ship, places, steps, hour, fuel) is not None:
                    return fuel
    return None


def slow_table(item, chart, ship, corridor):
    steps = [walks(chart, ship, hour) for hour in range(len(corridor))]
    return [[item(chart, ship, corridor, steps, hour, place) for place in range(chart.size)]
            for hour in range(len(corridor))]


class RichTableTest(unittest.TestCase):
    def test_a_line(self):
        chart, ship = line_chart(4), Ship(0, tank=5, fuel=2)
        self.assertEqual(rich_table(chart, ship, [[0, 1]] + [[3, 2, 1, 0]] * 3),
                         [[2, 2, None, None], [2, 2, 1, None], [2, 2, 1, 0], [2, 2, 1, 0]])

    def test_the_zones_limit_where_the_ship_goes(self):
        chart, ship = line_chart(4), Ship(0, fuel=5)
        self.assertEqual(rich_table(chart, ship, [[0], (1,), (0, 3, 2), [0, 2, 1]]),
                         [[5, None, None, None], [None, 4, None, None], [3, None, 3, None],
                          [3, 2, 3, None]])

    def test_later_hours_do_not_matter(self):
        chart, ship = line_chart(3), Ship(0)
        self.assertEqual(rich_table(chart, ship, [[0, 1], [0, 1], []]),
                         [[8, 8, None], [8, 8, None], [None] * 3])
        self.assertEqual(rich_table(chart, ship, [[0], [2], [0, 1, 2]]),
                         [[8, None, None], [None] * 3, [None] * 3])
        self.assertEqual(rich_table(chart, ship, [[], [0, 1, 2]]), [[None] * 3] * 2)

    def test_harbours_fill_the_tank(self):
        chart = line_chart(4, harbours=(2,))
        ship = Ship(0, tank=6, fuel=2)
        self.assertEqual(rich_table(chart, ship, all_places(chart, 3)),
                         [[2, 2, 6, 2], [2, 5, 6, 5], [4, 5, 6, 5]])
        self.assertEqual(rich_table(chart, ship, [[0, 1, 3]] * 3),
                         [[2, 2, None, 2], [2, 2, None, 2], [2, 2, None, 2]])

    def test_the_tide(self):
        self.assertEqual(rich_table(small_chart(), Ship(4, tank=3, fuel=1), [[0]] + [[0, 1, 2]] * 4),
                         [[1, None, None], [1, None, None], [1, 0, None], [1, 0, None],
                          [1, 0, None]])

    def test_a_tank_of_nothing(self):
        chart = line_chart(3, harbours=(1,))
        self.assertEqual(rich_table(chart, Ship(0, tank=0), [[0, 1], [0, 1, 2]]),
                         [[0, 0, None], [0, 0, None]])

    def test_many_cases(self):
        for seed in range(CASES):
            chart, ship, corridor = random_case(seed)
            self.assertEqual(rich_table(chart, ship, corridor),
                             slow_table(slow_rich, chart, ship, corridor), seed)


class NeedTableTest(unittest.TestCase):
    def test_a_line(self):
        chart, ship = line_chart(4), Ship(0, tank=2, fuel=0)
        self.assertEqual(need_table(chart, ship, [[0, 1, 2, 3]] * 3 + [[3]]),
                         [[None, 2, 1, 0], [None, 2, 1, 0], [None, None, 1, 0],
                          [None, None, None, 0]])

    def test_the_last_hour(self):
        chart = line_chart(4)
        self.assertEqual(need_table(chart, Ship(0), [(3, 1)]), [[None, 0, None, 0]])
        self.assertEqual(need_table(chart, Ship(0, slow=3, fast=3, tank=0), [[0]]),
                         [[0, None, None, None]])
        self.assertEqual(need_table(chart, Ship(0), [[]]), [[None] * 4])

    def test_the_hours_before_do_not_matter(self):
        chart, ship = line_chart(3), Ship(0)
        self.assertEqual(need_table(chart, ship, [[], [0, 1], [1]]),
                         [[None] * 3, [1, 0, None], [None, 0, None]])
        self.assertEqual(need_table(chart, ship, [[0], [], [1]]),
                         [[None] * 3, [None] * 3, [None, 0, None]])
        self.assertEqual(need_table(chart, ship, [[0], [1], []]), [[None] * 3] * 3)

    def test_the_fuel_at_hour_0_and_filling_there_do_not_matter(self):
        chart = line_chart(3, harbours=(0,))
        for fuel in range(4):
            self.assertEqual(need_table(chart, Ship(0, tank=3, fuel=fuel), [[0], [1], [2]]),
                             [[2, None, None], [None, 1, None], [None, None, 0]])

    def test_harbours_on_the_way_fill_the_tank(self):
        chart = line_chart(5, harbours=(2,))
        ship = Ship(0, tank=3)
        self.assertEqual(need_table(chart, ship, [[0], [1], [2], [3], [4]])[:3],
                         [[2, None, None, None, None], [None, 1, None, None, None],
                          [None, None, 2, None, None]])
        self.assertEqual(need_table(line_chart(5), ship, [[0], [1], [2], [3], [4]])[:2],
                         [[None] * 5, [None, 3, None, None, None]])

    def test_a_harbour_that_demands_more_than_a_full_tank(self):
        chart = line_chart(4, harbours=(0,))
        corridor = [[0], [0], [1], [2], [3]]
        self.assertEqual(need_table(chart, Ship(0, tank=2), corridor)[:2], [[None] * 4] * 2)
        self.assertEqual(need_table(chart, Ship(0, tank=3), corridor)[:2],
                         [[0, None, None, None], [3, None, None, None]])

    def test_a_tank_of_nothing(self):
        chart = line_chart(3, harbours=(1,))
        self.assertEqual(need_table(chart, Ship(0, tank=0), [[0, 1], [1, 2]]),
                         [[None, 0, None], [None, 0, 0]])

    def test_many_cases(self):
        for seed in range(CASES):
            chart, ship, corridor = random_case(seed)
            self.assertEqual(need_table(chart, ship, corridor),
                             slow_table(slow_need, chart, ship, corridor), seed)


class PossiblePlacesTest(unittest.TestCase):
    def test_a_line(self):
        chart = line_chart(4)
        self.assertEqual(possible_places(chart, Ship(0), [[0], [3, 2, 1, 0], (3, 2)]),
                         [[0], [1], [2]])
        self.assertEqual(possible_places(chart, Ship(0, fuel=1), [[1, 0], [3, 2, 1, 0], (3, 2)]),
                         [[1], [1, 2], [2]])

    def test_fuel_counts_from_both_sides(self):
        # Place 1 can be reached at hour 1 and left at hour 1, but not by the same driving.
        chart, corridor = line_chart(4), [[0, 3], [0, 1, 2, 3], [2, 3]]
        self.assertEqual(possible_places(chart, Ship(0, fuel=1), corridor),
                         [[3], [2, 3], [2, 3]])
        self.assertEqual(possible_places(chart, Ship(0, fuel=2), corridor),
                         [[0, 3], [1, 2, 3], [2, 3]])

    def test_all_zones_are_empty_if_no_driving_fits(self):
        chart = line_chart(3)
        self.assertEqual(possible_places(chart, Ship(0), [[0], [2], [1]]), [[], [], []])
        for hour in range(3):
            corridor = all_places(chart, 3)
            corridor[hour] = ()
            self.assertEqual(possible_places(chart, Ship(0), corridor), [[], [], []])
        self.assertEqual(possible_places(chart, Ship(0, fuel=0), [[0], [0, 1], [1]]), [[], [], []])
        self.assertEqual(possible_places(chart, Ship(0), [[]]), [[]])

    def test_many_cases(self):
        fitting_cases = 0
        for seed in range(CASES):
            chart, ship, corridor = random_case(seed)
            drivings = fitting(chart, ship, corridor)
            fitting_cases += bool(drivings)
            zones = possible_places(chart, ship, corridor)
            self.assertEqual(zones, [sorted({driving[hour] for driving in drivings})
                                     for hour in range(len(corridor))], seed)
            self.check_against_tables(chart, ship, corridor, zones)
        self.assertTrue(CASES // 4 < fitting_cases < CASES)

    def check_against_tables(self, chart, ship, corridor, zones):
        rich = rich_table(chart, ship, corridor)
        needs = need_table(chart, ship, corridor)
        for hour, place in itertools.product(range(len(corridor)), range(chart.size)):
            fuel, need = rich[hour][place], needs[hour][place]
            possible = fuel is not None and need is not None and fuel >= need
            self.assertEqual(place in zones[hour], possible)


if __name__ == "__main__":
    unittest.main()
