"""Point 50: what agents know in common, and successions that show what they do not."""

import random
import unittest

from fogfleet.chart import Chart
from fogfleet.letters import Letter
from fogfleet.reports import Report
from fogfleet.setting import Setting
from fogfleet.shared import common_counter, commonly
from fogfleet.ships import Ship
from tests.helpers import line_chart, long_post
from tests.worldlists import agents_of, facts_of, random_setting, slow_true, slow_view, worlds_of

CASES = 120
STILL = Ship(0, fast=0)
CHART = line_chart(4)
LETTER = Letter(1, [0, 1], "k0", [(0, "s0", 0, 2), (1, "k1", 0, 1)])
SETTING = Setting(CHART, 2, [Ship(0)], letters=[LETTER])
WORLD = ([[1, 1, 2]], [[1, 2, 2]])
FACT = ("in", 0, 1, (0, 1))


def all_reached(setting, worlds, world, agents, hour):
    """All worlds to which successions of any length lead, found one link after the other."""
    rooms = []
    for agent in agents:
        rooms.append({})
        for other in worlds:
            rooms[-1].setdefault(slow_view(setting, other, agent, hour), []).append(other)
    found, edge = [world], [world]
    while edge:
        now = edge.pop()
        for agent, room in zip(agents, rooms):
            # A view whose worlds were taken once has nothing more to give.
            for other in room.pop(slow_view(setting, now, agent, hour), []):
                if other not in found:
                    found.append(other)
                    edge.append(other)
    return found


class SharedTest(unittest.TestCase):
    def check_counter(self, setting, worlds, world, agents, hour, fact, answer):
        self.assertIs(type(answer), tuple)
        steps, found = answer
        self.assertIs(type(steps), list)
        self.assertIs(type(found), list)
        self.assertEqual(len(found), len(steps) + 1)
        self.assertLessEqual(len(steps), 3000)
        self.assertEqual(found[0], world)
        for other in found:
            self.assertIs(type(other), tuple)
            self.assertIsNot(other, world)
            for part, given in zip(other, world):
                self.assertIs(type(part), list)
                self.assertIsNot(part, given)
            if worlds is not None:
                self.assertIn(other, worlds)
        for agent, before, after in zip(steps, found, found[1:]):
            self.assertIn(agent, agents)
            self.assertEqual(slow_view(setting, before, agent, hour), slow_view(setting, after, agent, hour))
        self.assertFalse(slow_true(setting, found[-1], fact))

    def check(self, setting, worlds, world, agents, hour, fact, expected):
        self.assertIs(commonly(setting, world, agents, hour, fact), expected)
        answer = common_counter(setting, world, agents, hour, fact)
        self.assertEqual(answer is None, expected)
        if answer is not None:
            self.check_counter(setting, worlds, world, agents, hour, fact, answer)
        return answer

    def check_here(self, agents, hour, fact, expected, world=WORLD, setting=SETTING):
        return self.check(setting, worlds_of(setting), world, agents, hour, fact, expected)


class SmallSettingTest(SharedTest):
    def test_no_agents(self):
        for fact, expected in ((FACT, True), (("in", 0, 1, (0,)), False), (("by", 0, 1, 2), True),
                               (("by", 0, 1, 1), False), (("from", 0, 2, 2), True), (("from", 0, 2, 3), False),
                               (("holds", "k1", 2, 0), True), (("holds", "k1", 1, 0), False),
                               (("out", 0, 2, (2,)), False), (("out", 0, 2, (1,)), True)):
            for hour in (0, 2, 96):
                answer = self.check_here([], hour, fact, expected)
                if not expected:
                    self.assertEqual(answer, ([], [WORLD]))
                self.check_here((), hour, fact, expected)

    def test_one_agent(self):
        self.check_here(["k0"], 0, FACT, False)
        self.check_here(["k0"], 1, FACT, True)
        self.check_here(["k0"], 1, ("in", 0, 1, (1,)), False)
        self.check_here(["k1"], 1, FACT, False)
        self.check_here(["k1"], 2, FACT, True)
        self.check_here(["k2"], 96, FACT, False)
        self.check_here(["s0"], 1, ("in", 0, 1, (1,)), True)
        self.check_here(["s0"], 0, ("in", 0, 1, (1,)), False)
        self.check_here(["s0"], 2, ("in", 0, 2, (2,)), True)
        self.check_here(["s0"], 96, ("in", 0, 2, (2,)), True)
        self.check_here(["s0"], 0, ("in", 0, 0, (1,)), True)
        self.check_here(["k1"], 2, ("by", 0, 1, 2), True)
        self.check_here(["k1"], 2, ("from", 0, 1, 2), False)

    def test_one_agent_twice(self):
        for hour in (0, 1, 2, 96):
            for agent in ("k0", "k1", "s0"):
                for fact in (FACT, ("by", 0, 1, 2), ("from", 0, 2, 2), ("holds", "k1", 2, 0)):
                    expected = commonly(SETTING, WORLD, [agent], hour, fact)
                    self.check_here([agent, agent], hour, fact, expected)

    def test_several_agents(self):
        self.check_here(["k0", "s0"], 1, FACT, True)
        self.check_here(["k0", "k1"], 2, FACT, False)
        self.check_here(["k0", "k1"], 4, FACT, True)
        self.check_here(["s0", "k1", "k0"], 4, FACT, True)
        self.check_here(["s0", "k1", "k0"], 3, FACT, False)
        self.check_here(["s0", "k2"], 4, FACT, False)

    def test_what_is_false_in_the_given_world(self):
        for agents in ([], ["k0"], ["s0", "k1"]):
            answer = self.check_here(agents, 96, ("in", 0, 1, (0,)), False)
            self.assertEqual(answer[1][0], WORLD)

    def test_what_is_true_in_every_world(self):
        for agents in ([], ["k0"], ["s0", "k1", "k2", "k0"]):
            for hour in (0, 2, 96):
                self.check_here(agents, hour, ("in", 0, 1, (0, 1, 2, 3)), True)
                self.check_here(agents, hour, ("by", 0, 2, 4), True)
                self.check_here(agents, hour, ("from", 0, 2, 1), True)

    def test_a_ship_and_a_keeper_that_holds_no_letter(self):
        # The keeper knows nothing, so nothing of the ship's places is common.
        self.check_here(["s0"], 2, ("out", 0, 0, (3,)), True)
        self.check_here(["s0", "k2"], 2, ("out", 0, 0, (3,)), False)


class ManySettingsTest(SharedTest):
    def test_many_settings(self):
        found = set()
        for seed in range(CASES):
            setting, worlds = random_setting(seed + 50000, 300)
            dice = random.Random(seed)
            world = dice.choice(worlds)
            for hour in (0, setting.horizon // 2, setting.horizon, setting.horizon + 2, 96):
                agents = self.some_agents(setting, dice)
                reached = all_reached(setting, worlds, world, agents, hour)
                for fact in facts_of(setting, dice, 1):
                    expected = all(slow_true(setting, other, fact) for other in reached)
                    self.check(setting, worlds, world, agents, hour, fact, expected)
                    found.add((fact[0], expected))
        self.assertEqual(len(found), 14)

    def some_agents(self, setting, dice):
        agents = dice.sample(agents_of(setting), dice.choice([0, 1, 1, 2, 2, 3]))
        return agents + agents[:dice.choice([0, 0, 1])]

    def test_runs_that_need_several_steps(self):
        longest = 0
        for seed in range(150):
            setting = Setting(line_chart(2), 2, [STILL] * 4, letters=long_post(seed))
            runs = {tuple(world[1][0]) for world in worlds_of(setting)}
            worlds = [([[0] * 3] * 4, [list(run)]) for run in sorted(runs)]
            dice = random.Random(seed)
            for _ in range(4):
                world, hour = dice.choice(worlds), dice.randint(0, 8)
                agents = ["k0", "k1", "s0", "s3"][:dice.randint(1, 4)]
                reached = all_reached(setting, worlds, world, agents, hour)
                for event in range(7):
                    hours = [run[0][event] for _, run in reached]
                    self.check(setting, worlds, world, agents, hour, ("by", 0, event, max(hours)), True)
                    self.check(setting, worlds, world, agents, hour, ("from", 0, event, min(hours)), True)
                    late = self.check(setting, worlds, world, agents, hour, ("by", 0, event, max(hours) - 1), False)
                    early = self.check(setting, worlds, world, agents, hour, ("from", 0, event, min(hours) + 1), False)
                    longest = max(longest, len(late[0]), len(early[0]))
        self.assertGreaterEqual(longest, 4)


class ManyStepsTest(SharedTest):
    def star_setting(self, rows, letters):
        """A ship that stays where it is, and letters that say the rows of its places.

        Letter k is told to all keepers but k.
        """
        many = len(rows)
        post = []
        for letter in range(letters):
            zone = [place for place in range(many) if rows[place] >> letter & 1]
            hops = [(0, f"k{other}", 0, 0) for other in range(letters) if other != letter]
            post.append(Letter(0, zone, "k9", hops))
        return Setting(line_chart(many), 0, [STILL, STILL], letters=post)

    def test_a_chain_of_answers(self):
        # Each keeper takes two neighbouring places for alike, and no keeper more.
        snake = [0, 1, 3, 7, 6, 14, 12, 13, 29, 31, 27, 26]
        setting = self.star_setting(snake, 5)
        world = ([[0], [0]], [[0] * 5 for _ in range(5)])
        keepers = [f"k{number}" for number in range(5)]
        worlds = worlds_of(setting)
        for ship in (0, 1):
            for last in range(1, 12):
                fact = ("out", ship, 0, (last,))
                answer = self.check(setting, worlds, world, keepers, 0, fact, False)
                self.assertEqual(len(answer[0]), last)
                self.check(setting, worlds, world, keepers[:2], 0, fact, last > 2)
                self.check(setting, worlds, world, ["k9"], 0, fact, True)
        self.check(setting, worlds, world, keepers, 0, ("out", 0, 0, (12,)), True)
        # One after the other both ships go to the end, one of them at least.
        answer = self.check(setting, worlds, world, keepers, 0, ("together", 0, 1, 0), False)
        self.assertLess(len(answer[0]), 23)
        apart = ([[0], [11]], world[1])
        answer = self.check(setting, worlds, apart, keepers, 0, ("apart", 0, 1), False)
        self.assertGreaterEqual(len(answer[0]), 11)

    def test_a_long_post(self):
        # Between two keepers, hour by hour, the copies may come later and later.
        hops = [(event, f"k{1 + event % 2}", 1, 2) for event in range(6)]
        setting = Setting(line_chart(2), 0, [STILL], letters=[Letter(0, [0], "k0", hops)] * 6)
        run = [[0, 1, 2, 3, 4, 5, 6] for _ in range(6)]
        world = ([[0]], run)
        found = set()
        for hour in range(14):
            for agents in (["k1", "k2"], ["k2", "k1", "k2"], ["k1"], ["k0"], ["k0", "k1", "k2"]):
                for event in range(1, 7):
                    for fact in (("by", 5, event, event), ("from", 5, event, event),
                                 ("holds", "k2", hour, 3), ("out", 0, 0, (1,))):
                        answer = common_counter(setting, world, agents, hour, fact)
                        self.assertIs(commonly(setting, world, agents, hour, fact), answer is None)
                        if answer is not None:
                            self.check_counter(setting, None, world, agents, hour, fact, answer)
                            found.add(len(answer[0]))
        self.assertGreater(max(found), 4)

    def test_the_run_goes_first(self):
        # In the given run both keepers hold the letter, but the second one might not.
        letter = Letter(0, [0], "k0", [(0, "k1", 0, 1)])
        setting = Setting(line_chart(2), 0, [STILL], letters=[letter])
        world = ([[0]], [[0, 0]])
        fact = ("in", 0, 0, (0,))
        answer = self.check_here(["k0", "k1"], 0, fact, False, world, setting)
        self.assertEqual(answer[0], ["k0", "k1"])
        self.assertEqual(answer[1], [world, ([[0]], [[0, 1]]), ([[1]], [[0, 1]])])
        self.check_here(["k0", "k1"], 1, fact, True, world, setting)
        self.check_here(["k1"], 0, fact, True, world, setting)

    def test_places_after_the_hour_of_the_ship(self):
        # Its own places up to the hour are all that the ship knows, whatever reports there are.
        setting = Setting(Chart([5, 5, 5], [(0, 1), (1, 2)]), 3, [Ship(0)], reports=[Report(0, 3, [2])])
        world = ([[0, 1, 1, 2]], [])
        self.check_here(["s0"], 1, ("in", 0, 2, (1,)), False, world, setting)
        self.check_here(["s0"], 0, ("in", 0, 1, (1,)), False, world, setting)
        self.check_here(["s0"], 0, ("in", 0, 2, (1, 2)), True, world, setting)
        self.check_here(["s0"], 2, ("in", 0, 2, (1,)), True, world, setting)
        self.check_here(["s0"], 96, ("in", 0, 2, (1,)), True, world, setting)


if __name__ == "__main__":
    unittest.main()
