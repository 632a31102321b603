"""Points 44 to 46: worlds, views, and facts."""

import itertools
import random
import unittest

from fogfleet.letters import Letter
from fogfleet.reports import Report
from fogfleet.setting import Setting
from fogfleet.ships import Ship
from fogfleet.worlds import alike, answers, fits_view, is_true, is_world, view_of
from tests.helpers import line_chart
from tests.worldlists import agents_of, facts_of, random_setting, slow_true, slow_view

CHART = line_chart(4)
LETTERS = [Letter(1, [0, 1], "k0", [(0, "s0", 1, 2), (0, "s1", 0, 3), (1, "k1", 1, 2)]),
           Letter(0, [2], "k1", [(0, "k0", 0, 4), (0, "k0", 1, 3)])]
SETTING = Setting(CHART, 2, [Ship(0), Ship(0, fuel=1)], reports=[Report(0, 0, [0, 1, 2])],
                  letters=LETTERS)
DRIVINGS = [[0, 1, 2], [3, 2, 2]]
RUN = [[1, 2, 4, 3], [0, 2, 1]]
WORLD = (DRIVINGS, RUN)
CASES = 40


class IsWorldTest(unittest.TestCase):
    def check(self, right, drivings, run=RUN, setting=SETTING):
        self.assertIs(is_world(setting, (drivings, run)), right)

    def test_worlds(self):
        self.check(True, DRIVINGS)
        self.check(True, [[2, 1, 0], [0, 0, 1]])
        self.check(True, DRIVINGS, [[1, 3, 1, 5], [0, 4, 3]])

    def test_too_few_and_too_many_drivings(self):
        self.check(False, [])
        self.check(False, DRIVINGS[:1])
        self.check(False, DRIVINGS + [[0, 0, 0]])

    def test_drivings_that_do_not_fit(self):
        self.check(False, [[3, 2, 2], [3, 2, 2]])
        self.check(False, [[0, 2, 2], [3, 2, 2]])
        for driving in ([0, 1], [0, 1, 2, 2], [], [0]):
            self.check(False, [driving, [3, 2, 2]])
            self.check(False, [[0, 1, 2], driving])

    def test_a_driving_out_of_fuel(self):
        self.check(False, [[0, 1, 2], [3, 2, 1]])
        self.check(True, [[0, 1, 2], [3, 3, 2]])

    def test_lists_that_are_no_run(self):
        for run in ([], RUN[:1], RUN + [[0]], RUN[::-1], [[1, 2, 4], [0, 2, 1]], [[1, 2, 5, 3], [0, 2, 1]],
                    [[1, 4, 4, 5], [0, 2, 1]], [[2, 3, 4, 4], [0, 2, 1]], [[1, 2, 4, 3], [0, 2, 10 ** 39]]):
            self.check(False, DRIVINGS, run)

    def test_no_letters(self):
        setting = Setting(CHART, 2, [Ship(0)])
        self.check(True, [[0, 1, 2]], [], setting)
        self.check(False, [[0, 1, 2]], [[]], setting)

    def test_many_settings(self):
        for seed in range(CASES):
            setting, worlds = random_setting(seed)
            dice = random.Random(seed)
            for world in dice.sample(worlds, min(len(worlds), 20)):
                self.assertIs(is_world(setting, world), True)
            for _ in range(20):
                drivings, run = dice.choice(worlds)
                drivings = [[dice.choice([place, place, dice.randrange(setting.chart.size)])
                             for place in driving] for driving in drivings]
                run = [[hour + dice.choice([0, 0, 0, 0, 1, -1]) for hour in row] for row in run]
                self.assertIs(is_world(setting, (drivings, run)), (drivings, run) in worlds)


class AnswersTest(unittest.TestCase):
    def test_several_ships(self):
        self.assertEqual(answers(SETTING, DRIVINGS), [[True, False], [False, False]])
        self.assertEqual(answers(SETTING, [[2, 1, 0], [2, 2, 1]]), [[True, False], [True, True]])
        self.assertEqual(answers(SETTING, [[1, 2, 3], [1, 0, 0]]), [[False, True], [False, False]])

    def test_no_letters(self):
        self.assertEqual(answers(Setting(CHART, 2, [Ship(0)]), [[0, 1, 2]]), [])

    def test_the_empty_zone_and_all_places(self):
        letters = [Letter(0, [], "k0", []), Letter(2, [3, 2, 1, 0], "k0", [])]
        setting = Setting(CHART, 2, [Ship(0)] * 3, letters=letters)
        self.assertEqual(answers(setting, [[0, 1, 2], [3, 3, 3], [1, 1, 1]]), [[False] * 3, [True] * 3])

    def test_answers_are_true_and_false(self):
        for row in answers(SETTING, DRIVINGS):
            for flag in row:
                self.assertIsInstance(flag, bool)


class ViewTest(unittest.TestCase):
    def test_a_keeper(self):
        self.assertEqual(view_of(SETTING, WORLD, "k1", 0), ("k1", 0, ((1, 0, 0),), ((1, (False, False)),), None))
        self.assertEqual(view_of(SETTING, WORLD, "k1", 2), ("k1", 2, ((1, 0, 0),), ((1, (False, False)),), None))
        self.assertEqual(view_of(SETTING, WORLD, "k1", 3),
                         ("k1", 3, ((0, 3, 3), (1, 0, 0)), ((0, (True, False)), (1, (False, False))), None))

    def test_a_ship(self):
        self.assertEqual(view_of(SETTING, WORLD, "s0", 0), ("s0", 0, (), (), (0,)))
        self.assertEqual(view_of(SETTING, WORLD, "s0", 1), ("s0", 1, (), (), (0, 1)))
        self.assertEqual(view_of(SETTING, WORLD, "s0", 2),
                         ("s0", 2, ((0, 1, 2),), ((0, (True, False)),), (0, 1, 2)))
        self.assertEqual(view_of(SETTING, WORLD, "s1", 96),
                         ("s1", 96, ((0, 2, 4),), ((0, (True, False)),), (3, 2, 2)))

    def test_hours_at_and_after_the_horizon(self):
        for hour in (2, 3, 24, 96):
            self.assertEqual(view_of(SETTING, WORLD, "s1", hour)[4], (3, 2, 2))
            self.assertEqual(view_of(SETTING, WORLD, "s1", hour)[:2], ("s1", hour))

    def test_no_letters_held(self):
        self.assertEqual(view_of(SETTING, WORLD, "k5", 96), ("k5", 96, (), (), None))
        self.assertEqual(view_of(SETTING, WORLD, "k0", 0), ("k0", 0, (), (), None))
        setting = Setting(CHART, 2, [Ship(0)])
        self.assertEqual(view_of(setting, ([[0, 1, 2]], []), "s0", 1), ("s0", 1, (), (), (0, 1)))

    def test_several_events_of_one_letter(self):
        self.assertEqual(view_of(SETTING, WORLD, "k0", 1),
                         ("k0", 1, ((0, 0, 1), (1, 2, 1)), ((0, (True, False)), (1, (False, False))), None))
        self.assertEqual(view_of(SETTING, WORLD, "k0", 2),
                         ("k0", 2, ((0, 0, 1), (1, 1, 2), (1, 2, 1)),
                          ((0, (True, False)), (1, (False, False))), None))

    def test_all_parts_are_tuples(self):
        for agent, hour in itertools.product(("k0", "s0", "s1"), (0, 1, 96)):
            view = view_of(SETTING, WORLD, agent, hour)
            self.assertIs(type(view), tuple)
            self.assertEqual({type(part) for part in view[2:] if part is not None}, {tuple})
            self.assertEqual({type(part) for part in view[2] + view[3]} | {tuple}, {tuple})
            self.assertEqual({type(flags) for _, flags in view[3]} | {tuple}, {tuple})
            hash(view)

    def test_many_settings(self):
        for seed in range(CASES):
            setting, worlds = random_setting(seed + 100)
            dice = random.Random(seed)
            for world in dice.sample(worlds, min(len(worlds), 5)):
                for agent, hour in itertools.product(agents_of(setting), (0, 1, 2, 4, 96)):
                    expected = slow_view(setting, world, agent, hour)
                    self.assertEqual(view_of(setting, world, agent, hour), expected)


class AlikeTest(unittest.TestCase):
    def test_ships_know_their_own_places(self):
        other = ([[0, 1, 1], [3, 2, 2]], RUN)
        for hour in range(5):
            self.assertIs(alike(SETTING, WORLD, other, "s0", hour), hour < 2)
            self.assertIs(alike(SETTING, WORLD, other, "s1", hour), True)
            self.assertIs(alike(SETTING, WORLD, other, "k0", hour), True)
            self.assertIs(alike(SETTING, WORLD, WORLD, "s0", hour), True)

    def test_answers_of_held_letters(self):
        other = ([[0, 1, 2], [1, 1, 2]], RUN)
        self.assertTrue(alike(SETTING, WORLD, other, "k0", 0))
        self.assertFalse(alike(SETTING, WORLD, other, "k0", 1))
        self.assertTrue(alike(SETTING, WORLD, other, "k1", 2))
        self.assertFalse(alike(SETTING, WORLD, other, "k1", 3))
        self.assertFalse(alike(SETTING, WORLD, other, "s0", 2))

    def test_hours_of_events(self):
        other = (DRIVINGS, [[1, 2, 4, 4], [0, 2, 1]])
        for hour in range(7):
            self.assertIs(alike(SETTING, WORLD, other, "k1", hour), hour < 3)
            self.assertIs(alike(SETTING, WORLD, other, "k0", hour), True)

    def test_many_settings(self):
        for seed in range(CASES):
            setting, worlds = random_setting(seed + 200)
            dice = random.Random(seed)
            for _ in range(30):
                first, second = dice.choice(worlds), dice.choice(worlds)
                agent, hour = dice.choice(agents_of(setting)), dice.randint(0, setting.horizon + 3)
                expected = slow_view(setting, first, agent, hour) == slow_view(setting, second, agent, hour)
                self.assertIs(alike(setting, first, second, agent, hour), expected)


class FitsViewTest(unittest.TestCase):
    def test_the_own_view(self):
        for agent, hour in itertools.product(agents_of(SETTING), (0, 1, 2, 3, 96)):
            self.assertIs(fits_view(SETTING, WORLD, view_of(SETTING, WORLD, agent, hour)), True)

    def test_views_of_other_worlds(self):
        other = ([[0, 1, 2], [1, 1, 2]], [[1, 2, 4, 4], [0, 2, 1]])
        self.assertTrue(fits_view(SETTING, WORLD, view_of(SETTING, other, "k5", 9)))
        self.assertTrue(fits_view(SETTING, WORLD, view_of(SETTING, other, "s0", 1)))
        self.assertFalse(fits_view(SETTING, WORLD, view_of(SETTING, other, "s0", 2)))
        self.assertFalse(fits_view(SETTING, WORLD, view_of(SETTING, other, "s1", 0)))
        self.assertFalse(fits_view(SETTING, WORLD, view_of(SETTING, other, "k1", 3)))

    def test_views_of_no_world(self):
        agent, hour, comings, told, own = view_of(SETTING, WORLD, "s0", 2)
        for view in ((agent, hour, (), told, own), (agent, hour, comings, (), own),
                     (agent, hour, comings, told, None), (agent, hour, comings, told, own[:2]),
                     (agent, hour, comings, ((0, (True,)),), own), (agent, 3, comings, told, own + (2,)),
                     ("s1", hour, comings, told, own), ("k0", hour, comings, told, None),
                     (agent, hour, ((-1, 1, 2),), told, own), (agent, hour, ((0, 9, 2),), told, own)):
            self.assertIs(fits_view(SETTING, WORLD, view), False)

    def test_what_is_no_world(self):
        for world in ((DRIVINGS[:1], RUN), (DRIVINGS, RUN[:1]), ([[0, 1], [3, 2, 2]], RUN),
                      ([[0, 1, 2], [3, 2, 1]], RUN), (DRIVINGS, [[1, 2, 5, 3], [0, 2, 1]]),
                      (DRIVINGS, []), ([], RUN), ([[0, 1, 2], []], RUN)):
            for agent in ("k5", "s0"):
                self.assertIs(fits_view(SETTING, world, view_of(SETTING, WORLD, agent, 0)), False)

    def test_many_settings(self):
        for seed in range(CASES):
            setting, worlds = random_setting(seed + 300)
            dice = random.Random(seed)
            for _ in range(30):
                first, second = dice.choice(worlds), dice.choice(worlds)
                agent, hour = dice.choice(agents_of(setting)), dice.randint(0, setting.horizon + 3)
                view = slow_view(setting, first, agent, hour)
                expected = slow_view(setting, second, agent, hour) == view
                self.assertIs(fits_view(setting, second, view), expected)


class IsTrueTest(unittest.TestCase):
    def check(self, right, *fact):
        self.assertIs(is_true(SETTING, WORLD, fact), right)

    def test_in_and_out(self):
        for ship, driving in enumerate(DRIVINGS):
            for hour, place in enumerate(driving):
                for zone in ((), (0,), (1, 2), (0, 3), (0, 1, 2, 3)):
                    self.check(place in zone, "in", ship, hour, zone)
                    self.check(place not in zone, "out", ship, hour, zone)

    def test_together(self):
        for hour, right in ((0, False), (1, False), (2, True)):
            self.check(right, "together", 0, 1, hour)
            self.check(right, "together", 1, 0, hour)

    def test_apart(self):
        self.check(False, "apart", 0, 1)
        self.check(False, "apart", 1, 0)
        for drivings, right in (([[0, 1, 2], [3, 3, 3]], True), ([[0, 1, 2], [0, 0, 0]], False),
                                ([[0, 1, 2], [1, 1, 1]], False), ([[0, 1, 2], [1, 0, 1]], True),
                                ([[0, 1, 2], [3, 3, 2]], False)):
            self.assertIs(is_true(SETTING, (drivings, RUN), ("apart", 0, 1)), right)
            self.assertIs(is_true(SETTING, (drivings, RUN), ("apart", 1, 0)), right)

    def test_by_and_from(self):
        for letter, row in enumerate(RUN):
            for event, coming in enumerate(row):
                for hour in range(0, 97):
                    self.check(coming <= hour, "by", letter, event, hour)
                    self.check(coming >= hour, "from", letter, event, hour)

    def test_holds(self):
        for agent, letter, first in (("k0", 0, 1), ("k0", 1, 1), ("k1", 0, 3), ("k1", 1, 0), ("s0", 0, 2),
                                     ("s1", 0, 4)):
            for hour in (0, 1, 2, 3, 4, 5, 96):
                self.check(hour >= first, "holds", agent, hour, letter)
        for agent, letter in (("s0", 1), ("s1", 1), ("k9", 0)):
            self.check(False, "holds", agent, 96, letter)

    def test_many_settings(self):
        seen = set()
        for seed in range(CASES):
            setting, worlds = random_setting(seed + 400)
            dice = random.Random(seed)
            for fact in facts_of(setting, dice):
                world = dice.choice(worlds)
                expected = slow_true(setting, world, fact)
                self.assertIs(is_true(setting, world, fact), expected)
                seen.add((fact[0], expected))
        self.assertEqual(len(seen), 14)


if __name__ == "__main__":
    unittest.main()
