"""Points 47 to 49: what agents surely know, counter-worlds, ends, and first hours."""

import itertools
import random
import unittest

from fogfleet.chart import Chart
from fogfleet.errors import FleetError, NoWorld
from fogfleet.knowing import count_ends, counter, ends, first_knowing, knows, sure
from fogfleet.letters import Letter
from fogfleet.numbering import count_drivings
from fogfleet.reports import Report
from fogfleet.setting import Setting
from fogfleet.ships import Ship
from fogfleet.tables import possible_places
from fogfleet.worlds import view_of
from tests.helpers import all_places, full_chart, line_chart, random_chart, random_zone
from tests.worldlists import (agents_of, facts_of, last_worlds, random_chain, random_setting,
                              slow_true, slow_view, successors, worlds_of)

CASES = 100
# Keeper k0 looks at hour 1 over places 0 and 1 and tells the ship; it answers at once.
CHART = line_chart(4)
LETTER = Letter(1, [0, 1], "k0", [(0, "s0", 0, 2), (1, "k1", 0, 1)])
SETTING = Setting(CHART, 2, [Ship(0)], letters=[LETTER])
WORLD = ([[1, 1, 2]], [[1, 2, 2]])


def view(agent, hour, world=WORLD, setting=SETTING):
    return view_of(setting, world, agent, hour)


class KnownTest(unittest.TestCase):
    """What the worlds are checked for that `counter` returns."""

    def check_counter(self, setting, worlds, seen, chain, fact, found):
        self.assertIs(type(found), list)
        self.assertEqual(len(found), len(chain) + 1)
        for world in found:
            self.assertIs(type(world), tuple)
            self.assertIn(world, worlds)
        self.assertEqual(slow_view(setting, found[0], seen[0], seen[1]), seen)
        for (agent, hour), before, after in zip(chain, found, found[1:]):
            self.assertEqual(slow_view(setting, before, agent, hour), slow_view(setting, after, agent, hour))
        self.assertFalse(slow_true(setting, found[-1], fact))

    def check_facts(self, setting, worlds, seen, chain, facts):
        last = last_worlds(setting, worlds, seen, chain)
        for fact in facts:
            expected = all(slow_true(setting, world, fact) for world in last)
            self.assertIs(sure(setting, seen, chain, fact), expected)
            found = counter(setting, seen, chain, fact)
            if expected:
                self.assertIsNone(found)
            else:
                self.check_counter(setting, worlds, seen, chain, fact, found)

    def check_ends(self, setting, worlds, seen, chain):
        last = last_worlds(setting, worlds, seen, chain)
        for number in range(len(setting.ships)):
            drivings = {tuple(drivings[number]) for drivings, _ in last}
            zones = [sorted(set(places)) for places in zip(*drivings)]
            self.assertEqual(ends(setting, seen, chain, number), zones)
            self.assertEqual(count_ends(setting, seen, chain, number), len(drivings))


class SureTest(KnownTest):
    def test_the_empty_chain(self):
        self.assertTrue(sure(SETTING, view("k0", 1), [], ("in", 0, 1, (0, 1))))
        self.assertFalse(sure(SETTING, view("k0", 1), [], ("in", 0, 1, (1,))))
        self.assertFalse(sure(SETTING, view("k0", 0), [], ("in", 0, 1, (0, 1))))
        self.assertTrue(sure(SETTING, view("k0", 1), [], ("out", 0, 2, (3,))))
        self.assertTrue(sure(SETTING, view("s0", 0), (), ("out", 0, 1, (3,))))
        self.assertFalse(sure(SETTING, view("s0", 0), (), ("in", 0, 1, (0, 1))))
        self.assertTrue(sure(SETTING, view("s0", 1), [], ("in", 0, 1, (1,))))
        self.assertTrue(sure(SETTING, view("k1", 2), [], ("in", 0, 1, (0, 1))))

    def test_one_link(self):
        fact = ("in", 0, 1, (0, 1))
        # The ship has the letter at hour 2 and knows that its writer knows.
        self.assertTrue(sure(SETTING, view("s0", 2), [("k0", 1)], fact))
        self.assertTrue(sure(SETTING, view("s0", 1), [("k0", 1)], fact))
        self.assertFalse(sure(SETTING, view("s0", 1), [("k0", 1)], ("in", 0, 1, (1,))))
        self.assertFalse(sure(SETTING, view("s0", 2), [("k1", 2)], fact))
        self.assertFalse(sure(SETTING, view("s0", 2), [("k1", 2)], ("out", 0, 1, (3,))))
        self.assertTrue(sure(SETTING, view("s0", 2), [("k1", 3)], fact))
        self.assertFalse(sure(SETTING, view("k0", 2), [("k1", 3)], fact))
        self.assertTrue(sure(SETTING, view("k0", 2), [("k1", 4)], fact))
        # Keeper k1 got the letter by way of the ship, so the ship knows where it was.
        self.assertTrue(sure(SETTING, view("k1", 2), [("s0", 2)], fact))
        self.assertTrue(sure(SETTING, view("k1", 2), [("s0", 1)], fact))

    def test_facts_about_events(self):
        self.assertTrue(sure(SETTING, view("k1", 2), [], ("by", 0, 1, 2)))
        self.assertFalse(sure(SETTING, view("k1", 2), [], ("by", 0, 1, 1)))
        self.assertTrue(sure(SETTING, view("k1", 2), [], ("from", 0, 1, 1)))
        self.assertFalse(sure(SETTING, view("k1", 2), [], ("from", 0, 1, 2)))
        self.assertTrue(sure(SETTING, view("k1", 2), [], ("holds", "s0", 2, 0)))
        self.assertFalse(sure(SETTING, view("k0", 2), [], ("holds", "s0", 2, 0)))
        self.assertTrue(sure(SETTING, view("k0", 2), [], ("holds", "s0", 3, 0)))
        self.assertFalse(sure(SETTING, view("k1", 2), [("s0", 2)], ("by", 0, 2, 2)))
        self.assertTrue(sure(SETTING, view("k1", 2), [("s0", 2)], ("by", 0, 2, 3)))

    def test_a_link_of_the_ship_itself(self):
        seen = view("s0", 2)
        self.assertTrue(sure(SETTING, seen, [("s0", 2)], ("in", 0, 1, (1,))))
        self.assertTrue(sure(SETTING, seen, [("s0", 1)], ("in", 0, 1, (1,))))
        self.assertFalse(sure(SETTING, seen, [("s0", 0)], ("in", 0, 1, (1,))))
        self.assertTrue(sure(SETTING, seen, [("s0", 0), ("s0", 2)], ("in", 0, 0, (1,))))
        self.assertFalse(sure(SETTING, seen, [("k0", 1), ("s0", 2)], ("in", 0, 1, (1,))))
        self.assertTrue(sure(SETTING, seen, [("k0", 1), ("s0", 2)], ("in", 0, 1, (0, 1))))

    def test_a_link_that_looks_ahead(self):
        # After the keeper's link the ship is known to be at 0 or 1 at hour 1; so it began at most at 2.
        seen = view("k0", 1)
        self.assertTrue(sure(SETTING, seen, [("s0", 0)], ("in", 0, 0, (0, 1, 2))))
        self.assertFalse(sure(SETTING, seen, [("s0", 0)], ("in", 0, 1, (0, 1))))
        self.assertEqual(ends(SETTING, seen, [("s0", 0)], 0), [[0, 1, 2], [0, 1, 2, 3], [0, 1, 2, 3]])
        self.assertEqual(ends(SETTING, seen, [("s0", 1)], 0), [[0, 1, 2], [0, 1], [0, 1, 2]])

    def test_two_ships(self):
        letters = [Letter(1, [1], "k0", [(0, "k1", 0, 0)])]
        setting = Setting(CHART, 1, [Ship(0), Ship(0)], reports=[Report(1, 0, [1])], letters=letters)
        world = ([[0, 1], [1, 1]], [[1, 1]])
        seen = view_of(setting, world, "k1", 1)
        self.assertTrue(sure(setting, seen, [], ("together", 0, 1, 1)))
        self.assertTrue(sure(setting, seen, [], ("together", 1, 0, 1)))
        self.assertFalse(sure(setting, seen, [], ("together", 0, 1, 0)))
        self.assertFalse(sure(setting, seen, [], ("apart", 0, 1)))
        self.assertFalse(sure(setting, view_of(setting, world, "k1", 0), [], ("together", 0, 1, 1)))
        other = ([[3, 2], [1, 1]], [[1, 1]])
        self.assertFalse(sure(setting, view_of(setting, other, "s0", 1), [], ("together", 0, 1, 1)))
        self.assertFalse(sure(setting, view_of(setting, other, "s0", 1), [], ("apart", 0, 1)))
        far = ([[3, 3], [1, 1]], [[1, 1]])
        self.assertTrue(sure(setting, view_of(setting, far, "s0", 1), [], ("apart", 0, 1)))
        self.assertTrue(sure(setting, view_of(setting, far, "s0", 1), [], ("apart", 1, 0)))
        self.assertFalse(sure(setting, view_of(setting, far, "s0", 0), [], ("apart", 0, 1)))

    def test_two_ships_at_one_place_of_several(self):
        # Each ship is at place 0 or 1, so they may be together and may be apart.
        setting = Setting(line_chart(2), 0, [Ship(0), Ship(0)])
        seen = ("k0", 0, (), (), None)
        for fact in (("together", 0, 1, 0), ("apart", 0, 1)):
            self.assertFalse(sure(setting, seen, [], fact))
        alone = Setting(line_chart(1), 0, [Ship(0), Ship(0)])
        self.assertTrue(sure(alone, seen, [], ("together", 0, 1, 0)))
        self.assertFalse(sure(alone, seen, [], ("apart", 0, 1)))

    def test_many_settings(self):
        kinds = set()
        for seed in range(CASES):
            setting, worlds = random_setting(seed + 10000)
            dice = random.Random(seed)
            for _ in range(3):
                seen = slow_view(setting, dice.choice(worlds), dice.choice(agents_of(setting)),
                                 dice.randint(0, setting.horizon + 4))
                chain, facts = random_chain(setting, dice), facts_of(setting, dice, 2)
                self.check_facts(setting, worlds, seen, chain, facts)
                self.check_ends(setting, worlds, seen, chain)
                kinds |= {(fact[0], sure(setting, seen, chain, fact)) for fact in facts}
        self.assertEqual(len(kinds), 14, sorted(kinds))

    def test_one_ship_and_several_letters(self):
        for seed in range(CASES):
            dice = random.Random(seed)
            setting, worlds = self.lettered(dice)
            for _ in range(3):
                seen = slow_view(setting, dice.choice(worlds), dice.choice(["k0", "k1", "s0"]),
                                 dice.randint(0, setting.horizon + 2))
                chain = [(dice.choice(["s0", "s0", "k0", "k1"]), dice.randint(0, setting.horizon + 1))
                         for _ in range(dice.randint(1, 6))]
                facts = [fact for fact in facts_of(setting, dice, 2) if fact[0] in ("in", "out")]
                self.check_facts(setting, worlds, seen, chain, facts)
                self.check_ends(setting, worlds, seen, chain)

    def lettered(self, dice):
        """A setting in which nearly all doubt is about the answers of letters."""
        while True:
            chart = random_chart(dice.randrange(10 ** 9), most=4, deepest=6)
            horizon, tank = dice.randint(2, 4), dice.choice([0, 1, 2, 3, 8])
            ship = Ship(dice.randint(0, 4), slow=dice.choice([0, 0, 0, 1]), fast=dice.choice([1, 1, 2]),
                        tank=tank, fuel=dice.randint(0, tank))
            letters = []
            for _ in range(dice.randint(2, 4)):
                hops = [(0, dice.choice(["s0", "k0", "k1"]), 0, dice.choice([0, 0, 0, 1]))
                        for _ in range(dice.randint(0, 2))]
                letters.append(Letter(dice.randint(0, horizon), random_zone(dice, chart.size, 0.5),
                                      dice.choice(["k0", "k1"]), hops))
            setting = Setting(chart, horizon, [ship], letters=letters)
            worlds = worlds_of(setting)
            if 3 < len(worlds) <= 1000:
                return setting, worlds


class CounterTest(KnownTest):
    def test_none(self):
        self.assertIsNone(counter(SETTING, view("k0", 1), [], ("in", 0, 1, (0, 1))))
        self.assertIsNone(counter(SETTING, view("k1", 2), [("s0", 2)], ("by", 0, 2, 3)))

    def test_each_kind_of_fact(self):
        letters = [LETTER, Letter(0, [3], "k1", [(0, "s1", 1, 3)])]
        setting = Setting(CHART, 1, [Ship(0), Ship(0, fuel=0)], letters=letters)
        worlds = worlds_of(setting)
        world = ([[1, 1], [3, 3]], [[1, 2, 2], [0, 2]])
        facts = [("in", 0, 1, ()), ("out", 1, 0, (3,)), ("together", 0, 1, 1), ("apart", 0, 1),
                 ("by", 0, 2, 1), ("from", 1, 1, 2), ("holds", "s1", 1, 1)]
        chain = [("k0", 1), ("s1", 2), ("k1", 0), ("s0", 96), ("s1", 0), ("s1", 1)]
        for many in range(7):
            for agent in ("k0", "k1", "s0", "s1"):
                seen = view_of(setting, world, agent, 1)
                self.check_facts(setting, worlds, seen, chain[:many], facts)

    def test_one_agent_twice(self):
        worlds = worlds_of(SETTING)
        for chain in ([("s0", 1), ("s0", 1)], [("s0", 2), ("k0", 0), ("s0", 2)], [("k1", 9)] * 6):
            for agent in ("s0", "k0"):
                self.check_facts(SETTING, worlds, view(agent, 2), chain,
                                 [("in", 0, 1, (1,)), ("out", 0, 2, (2,)), ("by", 0, 1, 2)])

    def test_a_ship_that_needs_its_fuel(self):
        # Only ways that keep enough fuel go on to place 3, so the counter has to take one of them.
        chart = Chart([5] * 4, [(0, 1), (0, 2), (1, 2), (2, 3)])
        letters = [Letter(3, [3], "k0", [(0, "k1", 0, 0)])]
        setting = Setting(chart, 3, [Ship(0, fuel=2)], letters=letters)
        worlds = worlds_of(setting)
        world = ([[0, 0, 2, 3]], [[3, 3]])
        for chain in ([("s0", 1)], [("s0", 2)], [("k1", 3), ("s0", 2)], [("k1", 3), ("s0", 1), ("k0", 0)]):
            for zone in itertools.combinations(range(4), 2):
                for hour in range(4):
                    self.check_facts(setting, worlds, view_of(setting, world, "k0", 3), chain,
                                     [("in", 0, hour, zone), ("out", 0, hour, zone)])


class EndsTest(KnownTest):
    def test_no_knowledge(self):
        chart = full_chart(12)
        setting = Setting(chart, 24, [Ship(0), Ship(0, fuel=3)])
        seen = ("k0", 0, (), (), None)
        for number in (0, 1):
            corridor = setting.corridor(number)
            for chain in ([], [("k1", 3)], [("k1", 3), ("s2", 9)]):
                self.assertEqual(ends(setting, seen, chain, number),
                                 possible_places(chart, setting.ships[number], corridor))
                count = count_drivings(chart, setting.ships[number], corridor)
                self.assertEqual(count_ends(setting, seen, chain, number), count)
                self.assertGreater(count, 10 ** 6)

    def test_great_counts(self):
        # At each hour the ship goes on to one of 12 places, and its tank is always full.
        chart = full_chart(12, harbours=range(12))
        letters = [Letter(24, [0, 1, 2, 3], "k0", []), Letter(7, [5], "k1", [(0, "k0", 0, 0)])]
        setting = Setting(chart, 24, [Ship(0)], letters=letters)
        seen = ("k0", 24, ((0, 0, 24), (1, 1, 7)), ((0, (True,)), (1, (False,))), None)
        self.assertEqual(count_ends(setting, seen, [], 0), 12 ** 23 * 4 * 11)
        self.assertEqual(count_ends(setting, seen, [("k1", 7)], 0), 12 ** 24 * 11)
        self.assertEqual(count_ends(setting, seen, [("k2", 7)], 0), 12 ** 25)
        self.assertEqual(count_ends(setting, seen, [("s0", 6)], 0), 12 ** 25)
        self.assertEqual(count_ends(setting, seen, [("s0", 7)], 0), 12 ** 24 * 11)
        self.assertEqual(count_ends(setting, seen, [("s0", 24)], 0), 12 ** 23 * 4 * 11)
        own = ("s0", 3, (), (), (0, 0, 0, 0))
        self.assertEqual(count_ends(setting, own, [], 0), 12 ** 21)
        self.assertEqual(count_ends(setting, own, [("s0", 1)], 0), 12 ** 23)
        self.assertEqual(count_ends(setting, own, [("k0", 0)], 0), 12 ** 25)
        self.assertEqual(ends(setting, own, [("s0", 1)], 0), [[0], [0]] + all_places(chart, 23))

    def test_ways_with_much_and_little_fuel(self):
        # At hour 1 the ship is at place 1 with 1 or 2 units; place 3 asks for 2 of them.
        reports = [Report(0, 0, [0, 1]), Report(0, 1, [1])]
        setting = Setting(CHART, 3, [Ship(0, fuel=2)], reports=reports)
        seen = ("k0", 0, (), (), None)
        for chain in ([], [("s0", 0)], [("s0", 1)], [("s0", 2)], [("k0", 3), ("s0", 1)]):
            self.assertEqual(ends(setting, seen, chain, 0), [[0, 1], [1], [0, 1, 2], [0, 1, 2, 3]])
            self.assertEqual(count_ends(setting, seen, chain, 0), 5 + 8)

    def test_own_places(self):
        seen = view("s0", 1)
        self.assertEqual(ends(SETTING, seen, [], 0), [[1], [1], [0, 1, 2]])
        self.assertEqual(count_ends(SETTING, seen, [], 0), 3)
        self.assertEqual(ends(SETTING, seen, [("s0", 0)], 0), [[1], [0, 1, 2], [0, 1, 2, 3]])
        self.assertEqual(ends(SETTING, seen, [("k0", 1)], 0), [[0, 1, 2], [0, 1], [0, 1, 2]])
        self.assertEqual(ends(SETTING, seen, [("k0", 0)], 0), all_places(CHART, 3))
        self.assertEqual(ends(SETTING, view("s0", 96), [], 0), [[1], [1], [2]])
        self.assertEqual(count_ends(SETTING, view("s0", 96), [("s0", 2), ("s0", 96)], 0), 1)


class KnowsTest(KnownTest):
    def test_the_empty_chain(self):
        for fact in (("in", 0, 1, (1,)), ("in", 0, 1, (0,)), ("by", 0, 1, 2), ("by", 0, 1, 1)):
            self.assertIs(knows(SETTING, WORLD, [], fact), slow_true(SETTING, WORLD, fact))
            self.assertIs(knows(SETTING, WORLD, (), fact), slow_true(SETTING, WORLD, fact))

    def test_chains(self):
        fact = ("in", 0, 1, (0, 1))
        self.assertTrue(knows(SETTING, WORLD, [("k0", 1)], fact))
        self.assertFalse(knows(SETTING, WORLD, [("k0", 0)], fact))
        self.assertTrue(knows(SETTING, WORLD, [("s0", 1), ("k0", 1)], fact))
        self.assertFalse(knows(SETTING, WORLD, [("k0", 1), ("s0", 0)], fact))
        self.assertTrue(knows(SETTING, WORLD, [("k0", 1), ("s0", 1)], fact))
        self.assertTrue(knows(SETTING, WORLD, [("k1", 2), ("s0", 2), ("k0", 1)], fact))

    def test_the_given_world_counts(self):
        late = ([[1, 1, 2]], [[1, 3, 4]])
        self.assertTrue(knows(SETTING, WORLD, [("k1", 2)], ("in", 0, 1, (0, 1))))
        self.assertFalse(knows(SETTING, late, [("k1", 2)], ("in", 0, 1, (0, 1))))
        self.assertFalse(knows(SETTING, late, [("k1", 3)], ("in", 0, 1, (0, 1))))
        self.assertTrue(knows(SETTING, late, [("k1", 4)], ("in", 0, 1, (0, 1))))

    def test_many_settings(self):
        found = set()
        for seed in range(CASES):
            setting, worlds = random_setting(seed + 20000)
            dice = random.Random(seed)
            world, chain = dice.choice(worlds), random_chain(setting, dice, 4)
            last = [world]
            for agent, hour in chain:
                last = successors(setting, worlds, last, agent, hour)
            for fact in facts_of(setting, dice):
                expected = all(slow_true(setting, other, fact) for other in last)
                self.assertIs(knows(setting, world, chain, fact), expected)
                found.add((fact[0], expected))
        self.assertEqual(len(found), 14)


class FirstKnowingTest(unittest.TestCase):
    def test_one_agent(self):
        fact = ("in", 0, 1, (0, 1))
        self.assertEqual(first_knowing(SETTING, WORLD, ["k0"], fact), 1)
        self.assertEqual(first_knowing(SETTING, WORLD, ["s0"], fact), 1)
        self.assertEqual(first_knowing(SETTING, WORLD, ["k1"], fact), 2)
        self.assertIsNone(first_knowing(SETTING, WORLD, ["k2"], fact))
        self.assertIsNone(first_knowing(SETTING, WORLD, ["k1"], ("in", 0, 1, (1,))))
        self.assertEqual(first_knowing(SETTING, WORLD, ["s0"], ("in", 0, 2, (2,))), 2)

    def test_several_agents(self):
        fact = ("in", 0, 1, (0, 1))
        self.assertEqual(first_knowing(SETTING, WORLD, ["k0", "k1"], fact), 4)
        self.assertEqual(first_knowing(SETTING, WORLD, ("k1", "k0"), fact), 2)
        self.assertEqual(first_knowing(SETTING, WORLD, ["s0", "s0"], fact), 1)
        self.assertEqual(first_knowing(SETTING, WORLD, ["s0", "k1", "k0"], fact), 3)
        self.assertIsNone(first_knowing(SETTING, WORLD, ["k0", "k2"], fact))

    def test_no_agents(self):
        self.assertEqual(first_knowing(SETTING, WORLD, [], ("in", 0, 1, (1,))), 0)
        self.assertEqual(first_knowing(SETTING, WORLD, (), ("in", 0, 1, (1,)), limit=0), 0)
        self.assertIsNone(first_knowing(SETTING, WORLD, [], ("in", 0, 1, (0,))))

    def test_the_limit(self):
        fact = ("in", 0, 1, (0, 1))
        self.assertEqual(first_knowing(SETTING, WORLD, ["k0", "k1"], fact, 4), 4)
        self.assertIsNone(first_knowing(SETTING, WORLD, ["k0", "k1"], fact, limit=3))
        self.assertIsNone(first_knowing(SETTING, WORLD, ["k0"], fact, 0))
        self.assertEqual(first_knowing(SETTING, WORLD, ["k0"], ("in", 0, 1, (0, 1, 2, 3)), 0), 0)
        self.assertEqual(first_knowing(SETTING, WORLD, ["k0", "k1"], fact, 96), 4)
        self.assertIsNone(first_knowing(SETTING, WORLD, ["k2"], fact, 96))
        # The last copy comes at hour 60 at the latest, which the limit that is left out includes.
        hops = [(event, "k1", 6, 6) for event in range(5)] + [(5, "k2", 5, 6)]
        setting = Setting(CHART, 24, [Ship(0)], letters=[Letter(24, [0], "k0", hops)])
        world = ([[0] * 25], [[24, 30, 36, 42, 48, 54, 60]])
        self.assertEqual(first_knowing(setting, world, ["k2"], ("in", 0, 24, (0,))), 60)
        self.assertIsNone(first_knowing(setting, world, ["k2"], ("in", 0, 24, (0,)), 59))

    def test_many_settings(self):
        found = set()
        for seed in range(60):
            setting, worlds = random_setting(seed + 30000, 400)
            dice = random.Random(seed)
            for _ in range(6):
                world = dice.choice(worlds)
                fact = dice.choice(self.true_facts(setting, world))
                agents = dice.sample(agents_of(setting), dice.choice([0, 1, 1, 2]))
                expected = self.slow_hour(setting, worlds, world, agents, fact)
                self.assertEqual(first_knowing(setting, world, agents, fact, 7), expected)
                found.add(expected)
        self.assertLessEqual({None, 0, 1, 2}, found)

    def true_facts(self, setting, world):
        """Facts that some agent may learn in this world: own places, answers, and comings."""
        drivings, run = world
        facts = []
        for ship, driving in enumerate(drivings):
            facts += [("in", ship, hour, (place,)) for hour, place in enumerate(driving)]
            facts += [("in" if driving[letter.hour] in letter.zone else "out", ship, letter.hour, letter.zone)
                      for letter in setting.letters]
        for number, row in enumerate(run):
            for event, hour in enumerate(row):
                agent = setting.letters[number].agent_of(event)
                facts += [("by", number, event, hour), ("holds", agent, hour, number)]
        return facts

    def slow_hour(self, setting, worlds, world, agents, fact):
        for hour in range(8):
            last = [world]
            for agent in agents:
                last = successors(setting, worlds, last, agent, hour)
            if all(slow_true(setting, other, fact) for other in last):
                return hour
        return None


class NoWorldTest(unittest.TestCase):
    def refuse(self, setting, seen):
        fact = ("in", 0, 0, (0,))
        for call in (lambda: sure(setting, seen, [], fact), lambda: counter(setting, seen, [], fact),
                     lambda: sure(setting, seen, [("s0", 1)], fact), lambda: ends(setting, seen, [], 0),
                     lambda: count_ends(setting, seen, [("k0", 1)], 0),
                     lambda: sure(setting, seen, [], ("by", 0, 0, 1)),
                     lambda: counter(setting, seen, [], ("from", 0, 0, 1))):
            with self.assertRaises(NoWorld) as caught:
                call()
            self.assertEqual(caught.exception.agent, seen[0])
            self.assertIsInstance(caught.exception, FleetError)

    def test_comings_of_no_run(self):
        told = ((0, (True,)),)
        for comings in (((0, 2, 2), (0, 2, 2)), ((0, 1, 2),), ((0, 0, 1), (0, 2, 2)), ((0, 2, 0),),
                        ((0, 2, 9),), ((0, 3, 2),), ((0, -1, 2),), ((1, 0, 2),), ((-1, 2, 2),)):
            self.refuse(SETTING, ("k1", 2, comings, told, None))
        self.refuse(SETTING, ("k1", 1, ((0, 2, 2),), told, None))
        self.refuse(SETTING, ("k1", 4, (), (), None))
        self.refuse(SETTING, ("k0", 1, (), (), None))
        self.assertTrue(sure(SETTING, ("k1", 2, ((0, 2, 2),), told, None), [], ("in", 0, 1, (0, 1))))
        self.assertTrue(sure(SETTING, ("k1", 3, (), (), None), [], ("by", 0, 2, 4)))

    def test_told_letters(self):
        for told in ((), ((1, (True,)),), ((0, (True,)), (0, (True,))), ((0, (True,)), (1, (True,))),
                     ((-1, (True,)),)):
            self.refuse(SETTING, ("k1", 2, ((0, 2, 2),), told, None))
        self.refuse(SETTING, ("k1", 1, (), ((0, (True,)),), None))
        two = Setting(CHART, 2, [Ship(0)], letters=[Letter(0, [0], "k0", []), Letter(0, [1], "k0", [])])
        comings = ((0, 0, 0), (1, 0, 0))
        self.refuse(two, ("k0", 0, comings, ((1, (True,)), (0, (False,))), None))
        self.refuse(two, ("k0", 0, comings, ((0, (False,)),), None))
        self.assertTrue(sure(two, ("k0", 0, comings, ((0, (False,)), (1, (True,))), None), [],
                             ("in", 0, 0, (1,))))

    def test_flags(self):
        for flags in ((), (True, True), (False, False, False)):
            self.refuse(SETTING, ("k1", 2, ((0, 2, 2),), ((0, flags),), None))
        # No ship can be in the two zones at once.
        two = Setting(CHART, 2, [Ship(0)], letters=[Letter(0, [0], "k0", []), Letter(0, [1], "k0", [])])
        self.refuse(two, ("k0", 0, ((0, 0, 0), (1, 0, 0)), ((0, (True,)), (1, (True,))), None))

    def test_own_places(self):
        self.refuse(SETTING, ("s0", 1, (), (), None))
        self.refuse(SETTING, ("s0", 1, (), (), ()))
        self.refuse(SETTING, ("s0", 1, (), (), (1,)))
        self.refuse(SETTING, ("s0", 1, (), (), (1, 1, 1)))
        self.refuse(SETTING, ("k1", 1, (), (), (1, 1)))
        self.refuse(SETTING, ("k1", 1, (), (), ()))
        told = ((0, (True,)),)
        self.refuse(SETTING, ("s0", 96, ((0, 1, 2),), told, (1, 1)))
        self.refuse(SETTING, ("s0", 96, ((0, 1, 2),), told, (1, 1, 1, 1)))
        self.assertTrue(sure(SETTING, ("s0", 96, ((0, 1, 2),), told, (1, 1, 1)), [], ("in", 0, 0, (1,))))
        self.refuse(SETTING, ("s0", 1, (), (), (0, 2)))
        # The own places and the told answer do not go together.
        self.refuse(SETTING, ("s0", 2, ((0, 1, 2),), told, (2, 2, 2)))
        self.refuse(SETTING, ("s0", 2, ((0, 1, 2),), ((0, (False,)),), (1, 1, 2)))
        # The last place lies in the corridor, but no fitting driving goes on from it.
        reports = [Report(0, 2, [3])]
        setting = Setting(CHART, 2, [Ship(0)], reports=reports, letters=[LETTER])
        self.refuse(setting, ("s0", 0, (), (), (0,)))
        self.refuse(setting, ("s0", 1, (), (), (1, 1)))
        self.assertTrue(sure(setting, ("s0", 1, (), (), (1, 2)), [], ("in", 0, 2, (3,))))
        # The ship has not fuel enough for its places.
        setting = Setting(CHART, 2, [Ship(0, fuel=1)], letters=[LETTER])
        self.refuse(setting, ("s0", 2, ((0, 1, 2),), told, (0, 1, 2)))
        for hour in range(3):
            barred = Setting(CHART, 2, [Ship(0)], reports=[Report(0, hour, [2])], letters=[LETTER])
            self.refuse(barred, ("s0", hour, ((0, 1, 2),)[:hour // 2], told[:hour // 2], (1,) * (hour + 1)))
        barred = Setting(CHART, 2, [Ship(0)], reports=[Report(0, 0, [2])], letters=[LETTER])
        self.refuse(barred, ("s0", 1, (), (), (1, 1)))
        self.assertTrue(sure(barred, ("s0", 1, (), (), (2, 1)), [], ("in", 0, 0, (2,))))

    def test_a_ship_without_a_fitting_driving(self):
        letters = [Letter(0, [0], "k0", [(0, "k1", 0, 1)])]
        for reports in ([Report(1, 1, [])], [Report(1, 0, [0]), Report(1, 1, [3])]):
            setting = Setting(CHART, 1, [Ship(0), Ship(0)], reports=reports, letters=letters)
            self.refuse(setting, ("k1", 0, (), (), None))
            self.refuse(setting, ("s0", 0, (), (), (0,)))
        setting = Setting(CHART, 1, [Ship(0), Ship(0)], reports=[Report(1, 1, [3])], letters=letters)
        for flags in ((True, True), (False, True)):
            self.refuse(setting, ("k0", 0, ((0, 0, 0),), ((0, flags),), None))
        self.assertTrue(sure(setting, ("k0", 0, ((0, 0, 0),), ((0, (True, False)),), None), [],
                             ("in", 0, 0, (0,))))

    def test_many_views(self):
        refused = 0
        for seed in range(CASES):
            setting, worlds = random_setting(seed + 40000, 400)
            dice = random.Random(seed)
            for _ in range(6):
                seen = self.spoiled(dice, slow_view(
                    setting, dice.choice(worlds), dice.choice(agents_of(setting)),
                    dice.randint(0, setting.horizon + 3)))
                fact = ("in", 0, 0, ())
                if any(slow_view(setting, world, seen[0], seen[1]) == seen for world in worlds):
                    self.assertIs(sure(setting, seen, [], fact), False)
                else:
                    with self.assertRaises(NoWorld) as caught:
                        sure(setting, seen, [], fact)
                    self.assertEqual(caught.exception.agent, seen[0])
                    refused += 1
        self.assertGreater(refused, 100)

    def spoiled(self, dice, seen):
        """The view with one part changed a little."""
        agent, hour, comings, told, own = seen
        change = dice.randrange(5)
        if change == 0:
            return (agent, max(0, hour + dice.choice([-1, 1])), comings, told, own)
        if change == 1 and comings:
            letter, event, coming = comings[0]
            return (agent, hour, ((letter, event, coming + dice.choice([-1, 1])),) + comings[1:], told, own)
        if change == 2 and told:
            letter, flags = told[0]
            return (agent, hour, comings, ((letter, (not flags[0],) + flags[1:]),) + told[1:], own)
        if change == 3 and own:
            return (agent, hour, comings, told, own[:-1] + (0,))
        return (agent, hour, comings, told[1:], own)


if __name__ == "__main__":
    unittest.main()
