"""Points 14 and 15: ships and their steps."""

import unittest

from fogfleet.chart import Chart
from fogfleet.errors import FleetError, InvalidShip
from fogfleet.ships import Ship, moves, step_lanes
from tests.helpers import full_chart, line_chart, random_chart, small_chart, spoil, ways_of

HUGE = 10 ** 39 + 1


def told(ship):
    return (ship.draught, ship.slow, ship.fast, ship.tank, ship.fuel)


class ShipTest(unittest.TestCase):
    def test_what_may_be_left_out(self):
        self.assertEqual(told(Ship(4)), (4, 0, 1, 8, 8))
        self.assertEqual(told(Ship(4, slow=1)), (4, 1, 1, 8, 8))
        self.assertEqual(told(Ship(4, fast=3)), (4, 0, 3, 8, 8))
        self.assertEqual(told(Ship(4, tank=5)), (4, 0, 1, 5, 5))
        self.assertEqual(told(Ship(4, fuel=5)), (4, 0, 1, 8, 5))
        self.assertEqual(told(Ship(4, fuel=None)), (4, 0, 1, 8, 8))

    def test_everything_given(self):
        self.assertEqual(told(Ship(9, slow=1, fast=2, tank=6, fuel=3)), (9, 1, 2, 6, 3))

    def test_only_the_draught_is_passed_by_position(self):
        with self.assertRaises(TypeError):
            Ship(4, 0)

    def test_the_limits(self):
        self.assertEqual(told(Ship(0, slow=0, fast=0, tank=0, fuel=0)), (0, 0, 0, 0, 0))
        self.assertEqual(told(Ship(99, slow=3, fast=3, tank=8, fuel=8)), (99, 3, 3, 8, 8))
        self.assertEqual(told(Ship(1, tank=0)), (1, 0, 1, 0, 0))

    def refuse(self, part, draught, **more):
        with self.assertRaises(InvalidShip) as caught:
            Ship(draught, **more)
        self.assertEqual(caught.exception.part, part)
        self.assertIsInstance(caught.exception, FleetError)

    def test_wrong_draughts(self):
        for draught in (-1, 100, HUGE, -HUGE):
            self.refuse("draught", draught)

    def test_wrong_speeds(self):
        for slow, fast in ((-1, 1), (0, 4), (2, 1), (3, 2), (4, 4), (-1, -1), (1, 0), (0, HUGE)):
            self.refuse("speeds", 5, slow=slow, fast=fast)
        self.refuse("speeds", 5, slow=2)
        self.refuse("speeds", 5, fast=-1)

    def test_wrong_tanks(self):
        for tank in (-1, 9, HUGE):
            self.refuse("tank", 5, tank=tank)
            self.refuse("tank", 5, tank=tank, fuel=None)
            self.refuse("tank", 5, tank=tank, fuel=0)

    def test_wrong_fuel(self):
        for tank, fuel in ((8, -1), (8, 9), (3, 4), (0, 1), (0, -1), (8, HUGE)):
            self.refuse("fuel", 5, tank=tank, fuel=fuel)
        self.refuse("fuel", 5, fuel=9)

    def test_the_first_wrong_part_is_named(self):
        wrong = {"draught": 100, "speeds": (2, 1), "tank": 9, "fuel": 10}
        right = {"draught": 99, "speeds": (1, 2), "tank": 8, "fuel": 8}
        order = ["draught", "speeds", "tank", "fuel"]
        for mask in range(1, 16):
            bad = [part for k, part in enumerate(order) if mask >> k & 1]
            parts = {part: (wrong if part in bad else right)[part] for part in order}
            slow, fast = parts["speeds"]
            self.refuse(bad[0], parts["draught"], slow=slow, fast=fast,
                        tank=parts["tank"], fuel=parts["fuel"])


def reference_step(chart, ship, hour, start, goal):
    """The least number of lanes of a step, found by listing all ways."""
    for lanes in range(ship.slow, ship.fast + 1):
        draught = ship.draught if lanes else 0
        if ways_of(chart, start, goal, lanes, draught, hour):
            return lanes
    return None


SHIPS = [Ship(draught, slow=slow, fast=fast)
         for draught in (0, 5, 9) for slow in range(4) for fast in range(slow, 4)]


class StepsTest(unittest.TestCase):
    def test_examples_of_the_document(self):
        chart = small_chart()
        self.assertEqual(moves(chart, Ship(4, fast=2), 1, 0), [(0, 0), (1, 1), (2, 2)])
        self.assertEqual(moves(chart, Ship(4, slow=1, fast=2), 1, 0), [(0, 2), (1, 1), (2, 2)])

    def test_staying_needs_no_water(self):
        chart = small_chart()
        self.assertEqual(moves(chart, Ship(99, fast=3), 0, 1), [(1, 0)])
        self.assertEqual(step_lanes(chart, Ship(99), 0, 1, 1), 0)
        self.assertIsNone(step_lanes(chart, Ship(99), 0, 1, 0))

    def test_a_start_without_enough_water_cannot_be_left(self):
        chart = Chart([3, 9, 9], [(0, 1), (1, 2)], tide=(0, 6))
        self.assertEqual(moves(chart, Ship(4, slow=1, fast=3), 0, 0), [])
        self.assertEqual(moves(chart, Ship(4, slow=1, fast=3), 1, 0), [(0, 2), (1, 1), (2, 2)])
        self.assertEqual(moves(chart, Ship(4, fast=3), 0, 0), [(0, 0)])

    def test_a_way_back_needs_water_at_the_other_place(self):
        chart = Chart([9, 3], [(0, 1)])
        self.assertEqual(moves(chart, Ship(4, slow=2, fast=2), 0, 0), [])
        self.assertEqual(moves(chart, Ship(3, slow=2, fast=2), 0, 0), [(0, 2)])

    def test_a_ship_that_must_not_stay(self):
        chart = Chart([9, 9], [(0, 1)])
        self.assertEqual(moves(chart, Ship(4, slow=1, fast=1), 0, 0), [(1, 1)])
        self.assertEqual(moves(chart, Ship(4, slow=3, fast=3), 0, 0), [(1, 3)])
        self.assertEqual(moves(chart, Ship(4, slow=2, fast=3), 0, 0), [(0, 2), (1, 3)])
        self.assertEqual(moves(Chart([9], []), Ship(4, slow=1), 0, 0), [])

    def test_a_ship_that_never_moves(self):
        self.assertEqual(moves(full_chart(), Ship(0, fast=0), 7, 5), [(5, 0)])

    def test_lanes_forwards_and_backwards(self):
        chart = line_chart(4)
        self.assertEqual(moves(chart, Ship(1, slow=3, fast=3), 0, 0), [(1, 3), (3, 3)])
        self.assertEqual(step_lanes(chart, Ship(1, slow=2, fast=3), 0, 0, 1), 3)
        self.assertEqual(step_lanes(chart, Ship(1, slow=2, fast=3), 0, 0, 2), 2)
        self.assertIsNone(step_lanes(chart, Ship(1, slow=2, fast=2), 0, 0, 3))

    def test_a_round_of_three_lanes(self):
        chart = full_chart(3)
        self.assertEqual(step_lanes(chart, Ship(1, slow=3, fast=3), 0, 0, 0), 3)
        self.assertEqual(moves(chart, Ship(1, slow=1, fast=3), 0, 0), [(0, 2), (1, 1), (2, 1)])

    def test_the_least_number_of_lanes_is_taken(self):
        chart = line_chart(5)
        self.assertEqual(moves(chart, Ship(1, fast=3), 0, 2),
                         [(0, 2), (1, 1), (2, 0), (3, 1), (4, 2)])

    def test_great_hours(self):
        chart = Chart([1, 1], [(0, 1)], tide=(0, 9, 0))
        hour = 3 * 10 ** 38 + 1
        self.assertEqual(moves(chart, Ship(5), hour, 0), [(0, 0), (1, 1)])
        self.assertEqual(moves(chart, Ship(5), hour + 1, 0), [(0, 0)])
        self.assertEqual(step_lanes(chart, Ship(5), hour, 1, 0), 1)
        self.assertIsNone(step_lanes(chart, Ship(5), hour - 1, 1, 0))

    def test_many_charts(self):
        for seed in range(40):
            chart = random_chart(seed, most=5)
            for ship in SHIPS:
                for start in range(chart.size):
                    steps = [reference_step(chart, ship, seed, start, goal)
                             for goal in range(chart.size)]
                    self.assertEqual(moves(chart, ship, seed, start),
                                     [(k, step) for k, step in enumerate(steps) if step is not None])
                    self.assertEqual([step_lanes(chart, ship, seed, start, goal)
                                      for goal in range(chart.size)], steps)

    def test_the_list_is_new_and_nothing_is_changed(self):
        chart, ship = small_chart(), Ship(4, fast=2)
        before = (told(ship), chart.depths, chart.lanes, chart.tide)
        spoil(moves(chart, ship, 1, 0))
        self.assertEqual(moves(chart, ship, 1, 0), [(0, 0), (1, 1), (2, 2)])
        self.assertEqual((told(ship), chart.depths, chart.lanes, chart.tide), before)


if __name__ == "__main__":
    unittest.main()
