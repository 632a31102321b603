"""Point 42: what agents know in common of the hours of events."""

import itertools
import random
import unittest

from fogfleet.bounds import latest_alike
from fogfleet.common import common_run, commonly_by
from fogfleet.letters import Letter
from tests.helpers import AGENTS, extreme, random_post, runs_of, slow_seen

CHAIN = Letter(2, [0, 1], "k1", [(0, "s0", 1, 3), (1, "k0", 0, 2)])
RUN = [[2, 4, 5]]
CASES = 150


def reached_runs(post, runs, run, agents, hour):
    """The last runs of all successions of any length."""
    current = [run]
    while True:
        found = [other for other in runs if other in current or
                 any(slow_seen(post, other, agent, hour) == slow_seen(post, before, agent, hour)
                     for agent in agents for before in current)]
        if len(found) == len(current):
            return found
        current = found


def at_least(first, second):
    return all(a >= b for row, other in zip(first, second) for a, b in zip(row, other))


class CommonRunTest(unittest.TestCase):
    def test_no_agents(self):
        for run in ([[2, 4, 5]], [[2, 3, 3]], [[2, 5, 7]]):
            self.assertEqual(common_run([CHAIN], run, [], 9), run)
            self.assertEqual(common_run((CHAIN,), run, (), 9), run)
        self.assertEqual(common_run([], [], ["k0"], 9), [])

    def test_one_agent(self):
        self.assertEqual(common_run([CHAIN], RUN, ["k0"], 5), [[2, 5, 5]])
        self.assertEqual(common_run([CHAIN], RUN, ["k0"], 4), [[2, 5, 7]])
        self.assertEqual(common_run([CHAIN], RUN, ["s0"], 4), [[2, 4, 6]])
        self.assertEqual(common_run([CHAIN], RUN, ("s0",), 3), [[2, 5, 7]])

    def test_agents_that_see_nothing(self):
        self.assertEqual(common_run([CHAIN], RUN, ["k9"], 96), [[2, 5, 7]])
        self.assertEqual(common_run([CHAIN], RUN, ["k9", "k0"], 96), [[2, 5, 7]])
        self.assertEqual(common_run([CHAIN], RUN, ["k0"], 0), [[2, 5, 7]])

    def test_one_agent_twice(self):
        self.assertEqual(common_run([CHAIN], RUN, ["k0", "k0"], 5), [[2, 5, 5]])
        self.assertEqual(common_run([CHAIN], RUN, ["s0", "s0", "s0"], 4), [[2, 4, 6]])

    def test_two_agents(self):
        # Each step makes an event later that another agent then sees later.
        for agents in (["k0", "s0"], ["s0", "k0"]):
            self.assertEqual(common_run([CHAIN], RUN, agents, 96), [[2, 5, 7]])
        letter = Letter(0, [], "k0", [(0, "s0", 0, 6), (0, "s1", 0, 6)])
        for agents in (["s0", "s1"], ["s1", "s0", "s1"]):
            self.assertEqual(common_run([letter], [[0, 2, 3]], agents, 4), [[0, 6, 6]])
        self.assertEqual(common_run([letter], [[0, 2, 3]], ["s0"], 4), [[0, 2, 6]])

    def test_a_long_climb(self):
        # The hops between the two agents are so short that each round gains a single hour.
        hops = [(0, "s0", 0, 6)] + [(event, f"s{event % 2}", 0, 1) for event in range(1, 6)]
        letter = Letter(0, [], "k0", hops)
        run = [[0] * 7]
        found = common_run([letter], run, ["s0", "s1"], 20)
        self.assertEqual(found, [[0, 6, 7, 8, 9, 10, 11]])
        self.assertEqual(common_run([letter], run, ["s0"], 20), [[0, 0, 0, 0, 0, 0, 1]])

    def test_the_run_stays_as_it_is(self):
        run = [[2, 4, 5]]
        found = common_run([CHAIN], run, [], 5)
        found[0][2] = 99
        self.assertEqual(run, [[2, 4, 5]])
        common_run([CHAIN], run, ["s0", "k0"], 5)
        self.assertEqual(run, [[2, 4, 5]])

    def test_many_posts(self):
        for seed in range(CASES):
            post, dice = random_post(seed + 5000, 1), random.Random(seed)
            runs = runs_of(post)
            run, hour = dice.choice(runs), dice.randint(0, 8)
            agents = [dice.choice(AGENTS) for _ in range(dice.randint(0, 3))]
            right = [other for other in runs if at_least(other, run)
                     and all(latest_alike(post, other, agent, hour) == other for agent in agents)]
            found = common_run(post, run, agents, hour)
            self.assertEqual(found, extreme(right, min))
            self.assertIn(found, right)


class CommonlyByTest(unittest.TestCase):
    def test_an_ordinary_event(self):
        for by in range(-1, 10):
            self.assertIs(commonly_by([CHAIN], RUN, ["k0"], 5, 0, 1, by), by >= 5)
            self.assertIs(commonly_by([CHAIN], RUN, ["s0"], 5, 0, 1, by), by >= 4)
            self.assertIs(commonly_by([CHAIN], RUN, ["s0", "k0"], 5, 0, 2, by), by >= 7)
            self.assertIs(commonly_by([CHAIN], RUN, [], 5, 0, 2, by), by >= 5)
            self.assertIs(commonly_by((CHAIN,), RUN, ("k1", "k9"), 5, 0, 0, by), by >= 2)

    def test_great_numbers(self):
        for agents in ([], ["k0"], ["k0", "s0"]):
            self.assertIs(commonly_by([CHAIN], RUN, agents, 5, 0, 2, 10 ** 40 - 1), True)
            self.assertIs(commonly_by([CHAIN], RUN, agents, 5, 0, 2, -10 ** 39), False)

    def test_many_posts(self):
        found = set()
        for seed in range(CASES):
            post, dice = random_post(seed + 7000, 1), random.Random(seed)
            runs = runs_of(post)
            run, hour = dice.choice(runs), dice.randint(0, 8)
            agents = [dice.choice(AGENTS) for _ in range(dice.randint(0, 6))]
            last = reached_runs(post, runs, run, agents, hour)
            for number, letter in enumerate(post):
                for event, by in itertools.product(range(len(letter.hops) + 1), range(9)):
                    expected = all(other[number][event] <= by for other in last)
                    self.assertIs(commonly_by(post, run, agents, hour, number, event, by), expected)
                    found.add(expected)
        self.assertEqual(found, {True, False})


if __name__ == "__main__":
    unittest.main()
