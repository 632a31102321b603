"""Point 51: the fewest letters that would make an agent sure, and worlds that show that others do not."""

import itertools
import random
import unittest

from fogfleet.leastletters import least_letters, parting_world
from fogfleet.letters import Letter
from fogfleet.reports import Report
from fogfleet.setting import Setting
from fogfleet.ships import Ship
from tests.helpers import line_chart
from tests.worldlists import agents_of, facts_of, random_setting, slow_true, slow_view

CASES = 150
STILL = Ship(0, fast=0)
CHART = line_chart(4)


def slow_answers(setting, world, letters):
    """The answers of the letters about all ships."""
    return [[driving[setting.letters[number].hour] in setting.letters[number].zone for driving in world[0]]
            for number in letters]


def slow_alike(setting, worlds, world, agent, hour):
    seen = slow_view(setting, world, agent, hour)
    return [other for other in worlds if slow_view(setting, other, agent, hour) == seen]


def slow_candidates(setting, world, agent, hour):
    held = {letter for letter, _, _ in slow_view(setting, world, agent, hour)[2]}
    return [number for number, letter in enumerate(setting.letters)
            if letter.hour <= hour and number not in held]


def slow_least(setting, worlds, world, agent, hour, fact):
    """The least of the shortest lists that suffice, found by trying all sets of candidates."""
    wrong = [other for other in slow_alike(setting, worlds, world, agent, hour) if not slow_true(setting, other, fact)]
    found = []
    candidates = slow_candidates(setting, world, agent, hour)
    for many in range(len(candidates) + 1):
        for letters in itertools.combinations(candidates, many):
            told = slow_answers(setting, world, letters)
            if not any(slow_answers(setting, other, letters) == told for other in wrong):
                found.append((many, list(letters)))
    return min(found)[1] if found else None


def letters_at(zones, hour=0, hops=()):
    """A letter of keeper k1 for each zone."""
    return [Letter(hour, zone, "k1", list(hops)) for zone in zones]


class LeastLettersTest(unittest.TestCase):
    def setUp(self):
        self.world = ([[1]], [[0]] * 3)

    def still_setting(self, zones, **more):
        return Setting(CHART, 0, [STILL], letters=letters_at(zones), **more)

    def least(self, zones, fact, place=1, **more):
        setting = self.still_setting(zones, **more)
        return least_letters(setting, ([[place]], [[0] for _ in zones]), "k0", 0, fact)

    def test_no_letter_is_needed(self):
        self.assertEqual(self.least([[1]], ("in", 0, 0, (0, 1, 2, 3))), [])
        self.assertEqual(self.least([], ("out", 0, 0, ())), [])
        self.assertEqual(self.least([[1]], ("in", 0, 0, (1,)), reports=[Report(0, 0, [1])]), [])

    def test_one_letter(self):
        self.assertEqual(self.least([[1]], ("in", 0, 0, (1,))), [0])
        self.assertEqual(self.least([[0], [1, 2], [2]], ("in", 0, 0, (1, 2))), [1])
        self.assertEqual(self.least([[0], [1, 2], [3]], ("out", 0, 0, (3,))), [1])
        self.assertEqual(self.least([[0], [2], [3]], ("out", 0, 0, (3,))), [2])

    def test_several_letters(self):
        self.assertEqual(self.least([[0, 1], [1, 2]], ("in", 0, 0, (1,))), [0, 1])
        self.assertEqual(self.least([[0], [2], [3]], ("in", 0, 0, (1,))), [0, 1, 2])
        self.assertEqual(self.least([[0], [2], [3], [0, 2]], ("in", 0, 0, (1,))), [2, 3])

    def test_the_fewest_letters_count_first(self):
        # Letters 0, 1 and 2 suffice together, but so does letter 3 alone.
        self.assertEqual(self.least([[0], [2], [3], [1]], ("in", 0, 0, (1,))), [3])

    def test_the_least_list_counts_among_the_shortest(self):
        self.assertEqual(self.least([[1], [1], [1]], ("in", 0, 0, (1,))), [0])
        self.assertEqual(self.least([[0, 1], [1, 2], [1, 3], [0, 1]], ("in", 0, 0, (1,))), [0, 1])
        self.assertEqual(self.least([[], [0, 1], [1, 2], [1, 3]], ("in", 0, 0, (1,))), [1, 2])
        self.assertEqual(self.least([[0], [0, 1], [1, 2], [1, 3]], ("in", 0, 0, (1,))), [0, 1])
        self.assertEqual(self.least([[0, 2], [0], [2], [3]], ("in", 0, 0, (1,))), [0, 3])

    def test_all_letters_together_do_not_suffice(self):
        self.assertIsNone(self.least([], ("in", 0, 0, (1,))))
        self.assertIsNone(self.least([[0, 1], [2], [3]], ("in", 0, 0, (1,))))
        # What is false in the given world is never sure.
        self.assertIsNone(self.least([[0], [1], [2], [3]], ("in", 0, 0, (2,))))
        self.assertIsNone(self.least([[0], [1], [2], [3]], ("out", 0, 0, (1,))))

    def test_letters_that_the_agent_holds_are_no_candidates(self):
        letters = [Letter(0, [0, 1], "k0", []), Letter(0, [1, 2], "k1", []), Letter(0, [1], "k1", [(0, "k0", 1, 1)])]
        setting = Setting(CHART, 0, [STILL], letters=letters)
        world = ([[1]], [[0], [0], [0, 1]])
        fact = ("in", 0, 0, (1,))
        self.assertEqual(least_letters(setting, world, "k0", 0, fact), [1])
        self.assertEqual(least_letters(setting, world, "k0", 1, fact), [])
        self.assertEqual(least_letters(setting, world, "k5", 0, fact), [2])

    def test_later_letters_are_no_candidates(self):
        letters = [Letter(2, [1], "k1", []), Letter(1, [1], "k1", []), Letter(1, [1, 0], "k1", [])]
        setting = Setting(CHART, 3, [STILL], letters=letters)
        world = ([[1] * 4], [[2], [1], [1]])
        fact = ("in", 0, 3, (1,))
        self.assertIsNone(least_letters(setting, world, "k0", 0, fact))
        # A letter with exactly this hour is a candidate.
        self.assertEqual(least_letters(setting, world, "k0", 1, fact), [1])
        self.assertEqual(least_letters(setting, world, "k0", 2, fact), [0])
        self.assertEqual(least_letters(setting, world, "k0", 96, fact), [0])

    def test_what_a_ship_knows_of_itself(self):
        setting = Setting(CHART, 2, [Ship(0), STILL], letters=letters_at([[1]], hour=1) + letters_at([[2, 3]], hour=0))
        world = ([[0, 1, 1], [3, 3, 3]], [[1], [0]])
        self.assertEqual(least_letters(setting, world, "s0", 1, ("in", 0, 1, (1,))), [])
        # Its own places tell it what any letter up to the hour says about it.
        self.assertIsNone(least_letters(setting, world, "s0", 1, ("in", 0, 2, (1,))))
        self.assertIsNone(least_letters(setting, world, "s0", 0, ("in", 0, 1, (1,))))
        self.assertEqual(least_letters(setting, world, "s1", 1, ("in", 0, 1, (1,))), [0])
        self.assertEqual(least_letters(setting, world, "s0", 1, ("in", 1, 2, (2, 3))), [1])
        self.assertEqual(least_letters(setting, world, "s1", 0, ("in", 1, 2, (3,))), [])

    def test_many_settings(self):
        lengths = set()
        for seed in range(CASES):
            setting, worlds = random_setting(seed + 60000, 300)
            dice = random.Random(seed)
            for _ in range(3):
                world, agent = dice.choice(worlds), dice.choice(agents_of(setting))
                hour = dice.choice([0, dice.randint(0, setting.horizon), setting.horizon + 2, 96])
                for fact in self.facts(setting, dice, world):
                    expected = slow_least(setting, worlds, world, agent, hour, fact)
                    self.assertEqual(least_letters(setting, world, agent, hour, fact), expected)
                    lengths.add(None if expected is None else len(expected))
        self.assertLessEqual({None, 0, 1, 2}, lengths)

    def facts(self, setting, dice, world):
        """Facts about one ship, also those that a few letters may settle."""
        found = [fact for fact in facts_of(setting, dice, 2) if fact[0] in ("in", "out")]
        for letter in setting.letters:
            ship = dice.randrange(len(setting.ships))
            inside = world[0][ship][letter.hour] in letter.zone
            found.append(("in" if inside else "out", ship, letter.hour, letter.zone))
        for first, second in itertools.combinations(setting.letters, 2):
            if first.hour == second.hour and world[0][0][first.hour] in set(first.zone) & set(second.zone):
                found.append(("in", 0, first.hour, tuple(sorted(set(first.zone) & set(second.zone)))))
        return found


class PartingWorldTest(unittest.TestCase):
    def check(self, setting, worlds, world, agent, hour, letters, fact):
        told = slow_answers(setting, world, letters)
        right = [other for other in slow_alike(setting, worlds, world, agent, hour)
                 if slow_answers(setting, other, letters) == told and not slow_true(setting, other, fact)]
        answer = parting_world(setting, world, agent, hour, letters, fact)
        self.assertEqual(answer is None, not right)
        if answer is not None:
            self.assertIn(answer, right)
            self.assertIs(type(answer), tuple)
            self.assertEqual([type(part) for part in answer], [list, list])
            for part, given in zip(answer, world):
                self.assertFalse([row for row in part if any(row is other for other in given)])
        return answer is None

    def test_no_letters(self):
        setting = Setting(CHART, 0, [STILL], letters=letters_at([[1]]))
        world = ([[1]], [[0]])
        self.assertEqual(parting_world(setting, world, "k0", 0, [], ("in", 0, 0, (0, 1, 3))), ([[2]], [[0]]))
        self.assertIsNone(parting_world(setting, world, "k0", 0, [], ("in", 0, 0, (0, 1, 2, 3))))
        self.assertIsNone(parting_world(setting, world, "k0", 0, [0], ("in", 0, 0, (1,))))
        self.assertIsNone(parting_world(setting, world, "k1", 0, [], ("in", 0, 0, (1,))))
        self.assertEqual(parting_world(setting, world, "k0", 0, [0], ("out", 0, 0, (1,))), world)

    def test_held_and_later_letters_in_any_order(self):
        letters = [Letter(0, [0, 1], "k0", []), Letter(2, [1, 2], "k1", []), Letter(1, [1, 3], "k1", [])]
        setting = Setting(CHART, 2, [STILL], letters=letters)
        world = ([[1] * 3], [[0], [2], [1]])
        fact = ("in", 0, 0, (1,))
        for listed in ([], [0], [0, 0]):
            self.assertEqual(parting_world(setting, world, "k0", 0, listed, fact), ([[0] * 3], world[1]))
        for listed in ([1], [2], [0, 1], [2, 1, 0], [1, 0, 2, 1], (2, 0)):
            self.assertIsNone(parting_world(setting, world, "k0", 0, listed, fact))
        self.assertEqual(parting_world(setting, world, "k7", 0, [2], fact), ([[3] * 3], world[1]))
        self.assertIsNone(parting_world(setting, world, "k7", 0, [2, 1], fact))
        self.assertEqual(parting_world(setting, world, "k7", 96, [1], fact), ([[2] * 3], world[1]))

    def test_a_ship_keeps_its_own_places(self):
        setting = Setting(CHART, 2, [Ship(0)])
        world = ([[0, 1, 1]], [])
        self.assertIsNone(parting_world(setting, world, "s0", 1, [], ("in", 0, 1, (1,))))
        answer = parting_world(setting, world, "s0", 1, [], ("in", 0, 2, (1,)))
        self.assertEqual(answer[0][0][:2], [0, 1])
        self.assertNotEqual(answer[0][0][2], 1)
        self.assertIsNone(parting_world(setting, world, "s0", 96, [], ("in", 0, 2, (1,))))

    def test_many_settings(self):
        found = set()
        for seed in range(CASES):
            setting, worlds = random_setting(seed + 70000, 300)
            dice = random.Random(seed)
            world, agent = dice.choice(worlds), dice.choice(agents_of(setting))
            hour = dice.choice([0, dice.randint(0, setting.horizon), setting.horizon + 2, 96])
            for fact in [fact for fact in facts_of(setting, dice, 3) if fact[0] in ("in", "out")]:
                letters = [number for number in range(len(setting.letters)) if dice.random() < 0.5]
                dice.shuffle(letters)
                found.add(self.check(setting, worlds, world, agent, hour, letters, fact))
        self.assertEqual(found, {True, False})

    def test_it_shows_that_no_smaller_set_suffices(self):
        for seed in range(60):
            setting, worlds = random_setting(seed + 80000, 300)
            dice = random.Random(seed)
            world, agent, hour = dice.choice(worlds), dice.choice(agents_of(setting)), dice.randint(0, setting.horizon)
            for fact in [fact for fact in facts_of(setting, dice, 3) if fact[0] in ("in", "out")]:
                least = least_letters(setting, world, agent, hour, fact)
                if least is not None:
                    self.assertIsNone(parting_world(setting, world, agent, hour, least, fact))
                    for letter in least:
                        rest = [other for other in least if other != letter]
                        self.assertIsNotNone(parting_world(setting, world, agent, hour, rest, fact))


if __name__ == "__main__":
    unittest.main()
