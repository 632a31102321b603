"""Points 40 to 42: chains of agents, what they know of events, and the first hour of it."""

import itertools
import random
import unittest

from fogfleet.bounds import earliest_alike, latest_alike
from fogfleet.chains import (earliest_chain, first_hour, knows_by, knows_from, knows_held,
                             latest_chain)
from fogfleet.letters import Letter
from tests.helpers import AGENTS, HUGE, alike_to, extreme, random_post, runs_of, slow_seen

CHAIN = Letter(2, [0, 1], "k1", [(0, "s0", 1, 3), (1, "k0", 0, 2)])
RUN = [[2, 4, 5]]
CASES = 120


def random_links(dice, most=6):
    agents = dice.sample(AGENTS, 2)
    return [(dice.choice(agents), dice.randint(0, 8)) for _ in range(dice.randint(0, most))]


def last_runs(post, runs, run, chain):
    """The last runs of all successions from the run."""
    current = [run]
    for agent, hour in chain:
        seen = [slow_seen(post, other, agent, hour) for other in current]
        current = [other for other in runs if slow_seen(post, other, agent, hour) in seen]
    return current


class ChainsTest(unittest.TestCase):
    def test_no_link(self):
        self.assertEqual(latest_chain([CHAIN], RUN, []), [])
        self.assertEqual(earliest_chain([CHAIN], RUN, ()), [])

    def test_one_link(self):
        self.assertEqual(latest_chain([CHAIN], RUN, [("k0", 6)]), [[[2, 5, 5]]])
        self.assertEqual(earliest_chain([CHAIN], RUN, [("k0", 4)]), [[[2, 3, 5]]])
        self.assertEqual(latest_chain((CHAIN,), RUN, (("k9", 6),)), [[[2, 5, 7]]])

    def test_several_links(self):
        # The keeper has the letter at hour 5 and knows only that the ship got it by then.
        chain = [("k0", 5), ("s0", 4)]
        self.assertEqual(latest_chain([CHAIN], RUN, chain), [[[2, 5, 5]], [[2, 5, 7]]])
        self.assertEqual(latest_chain([CHAIN], RUN, chain[::-1]), [[[2, 4, 6]], [[2, 5, 7]]])
        self.assertEqual(earliest_chain([CHAIN], RUN, chain), [[[2, 3, 5]], [[2, 3, 3]]])
        self.assertEqual(latest_chain([CHAIN], RUN, [("k0", 5), ("s0", 5), ("k0", 7)]),
                         [[[2, 5, 5]], [[2, 5, 7]], [[2, 5, 7]]])

    def test_six_links_and_one_agent_twice(self):
        chain = [("k0", 5), ("s0", 96), ("k0", 5), ("s0", 0), ("k0", 96), ("k1", 1)]
        self.assertEqual(latest_chain([CHAIN], RUN, chain),
                         [[[2, 5, 5]], [[2, 5, 7]], [[2, 5, 7]], [[2, 5, 7]], [[2, 5, 7]], [[2, 5, 7]]])
        self.assertEqual(earliest_chain([CHAIN], RUN, chain),
                         [[[2, 3, 5]], [[2, 3, 3]], [[2, 3, 3]], [[2, 3, 3]], [[2, 3, 3]], [[2, 3, 3]]])
        self.assertEqual(latest_chain([CHAIN], RUN, [("k0", 5)] * 3), [[[2, 5, 5]]] * 3)

    def test_hours_that_go_up_and_down(self):
        letter = Letter(0, [], "k0", [(0, "s0", 0, 6), (1, "k1", 0, 6)])
        run = [[0, 2, 4]]
        self.assertEqual(latest_chain([letter], run, [("s0", 2), ("k1", 8), ("s0", 5)]),
                         [[[0, 2, 8]], [[0, 6, 8]], [[0, 6, 12]]])
        self.assertEqual(latest_chain([letter], run, [("s0", 5), ("k1", 8), ("s0", 2)]),
                         [[[0, 2, 8]], [[0, 6, 8]], [[0, 6, 12]]])
        self.assertEqual(latest_chain([letter], run, [("s0", 2), ("k1", 7), ("s0", 6)]),
                         [[[0, 2, 8]], [[0, 6, 12]], [[0, 6, 12]]])

    def test_no_letters(self):
        self.assertEqual(latest_chain([], [], [("k0", 1), ("s0", 2)]), [[], []])
        self.assertEqual(earliest_chain([], [], [("k0", 1), ("s0", 2)]), [[], []])

    def test_each_item_follows_from_the_one_before(self):
        for seed in range(CASES):
            post, dice = random_post(seed), random.Random(seed)
            run, chain = dice.choice(runs_of(post)), random_links(dice)
            for chained, alike in ((latest_chain, latest_alike), (earliest_chain, earliest_alike)):
                found = chained(post, run, chain)
                self.assertEqual(len(found), len(chain))
                for (agent, hour), before, after in zip(chain, [run] + found, found):
                    self.assertEqual(after, alike(post, before, agent, hour))

    def test_many_posts(self):
        for seed in range(CASES):
            post, dice = random_post(seed, 2), random.Random(seed)
            runs = runs_of(post)
            run, chain = dice.choice(runs), random_links(dice, 4)
            for many in range(1, len(chain) + 1):
                last = last_runs(post, runs, run, chain[:many])
                self.assertEqual(latest_chain(post, run, chain)[many - 1], extreme(last, max))
                self.assertEqual(earliest_chain(post, run, chain)[many - 1], extreme(last, min))


class KnowsTest(unittest.TestCase):
    def test_the_empty_chain(self):
        for by in range(10):
            self.assertIs(knows_by([CHAIN], RUN, [], 0, 2, by), by >= 5)
            self.assertIs(knows_from([CHAIN], RUN, [], 0, 2, by), by <= 5)
            self.assertIs(knows_held([CHAIN], RUN, [], "k0", by, 0), by >= 5)
            self.assertIs(knows_held([CHAIN], RUN, (), "k1", by, 0), by >= 2)
        self.assertFalse(knows_held([CHAIN], RUN, [], "s1", 96, 0))

    def test_one_link(self):
        for hour in range(10):
            self.assertIs(knows_by([CHAIN], RUN, [("k0", 5)], 0, 1, hour), hour >= 5)
            self.assertIs(knows_by([CHAIN], RUN, [("k0", 4)], 0, 2, hour), hour >= 7)
            self.assertIs(knows_from([CHAIN], RUN, [("k0", 5)], 0, 1, hour), hour <= 3)
            self.assertIs(knows_from([CHAIN], RUN, [("k0", 4)], 0, 2, hour), hour <= 5)
            self.assertIs(knows_held([CHAIN], RUN, [("k0", 5)], "s0", hour, 0), hour >= 5)
            self.assertIs(knows_held([CHAIN], RUN, [("s0", 4)], "k0", hour, 0), hour >= 6)

    def test_two_links(self):
        # The keeper knows that the ship has the letter, but the ship does not know of the keeper.
        self.assertTrue(knows_held([CHAIN], RUN, [("k0", 5)], "s0", 5, 0))
        self.assertFalse(knows_held([CHAIN], RUN, [("s0", 5), ("k0", 5)], "s0", 4, 0))
        self.assertTrue(knows_by([CHAIN], RUN, [("k0", 5), ("s0", 5)], 0, 2, 7))
        self.assertFalse(knows_by([CHAIN], RUN, [("k0", 5), ("s0", 5)], 0, 2, 6))
        self.assertTrue(knows_from([CHAIN], RUN, [("k0", 5), ("s0", 5)], 0, 2, 3))
        self.assertFalse(knows_from([CHAIN], RUN, [("k0", 5), ("s0", 5)], 0, 2, 4))

    def test_great_and_negative_numbers(self):
        for chain in ([], [("k0", 5)], [("k0", 5), ("s0", 0)]):
            for event in range(3):
                for number in (HUGE, 10 ** 40 - 1):
                    self.assertIs(knows_by([CHAIN], RUN, chain, 0, event, number), True)
                    self.assertIs(knows_by([CHAIN], RUN, chain, 0, event, -number), False)
                    self.assertIs(knows_from([CHAIN], RUN, chain, 0, event, number), False)
                    self.assertIs(knows_from([CHAIN], RUN, chain, 0, event, -number), True)
                self.assertIs(knows_by([CHAIN], RUN, chain, 0, event, -1), False)
                self.assertIs(knows_from([CHAIN], RUN, chain, 0, event, -1), True)

    def test_the_writing_is_always_known(self):
        for chain in ([("s3", 0)], [("s3", 0), ("k5", 96)]):
            self.assertTrue(knows_by([CHAIN], RUN, chain, 0, 0, 2))
            self.assertFalse(knows_by([CHAIN], RUN, chain, 0, 0, 1))
            self.assertTrue(knows_from([CHAIN], RUN, chain, 0, 0, 2))
            self.assertTrue(knows_held([CHAIN], RUN, chain, "k1", 2, 0))
            self.assertFalse(knows_held([CHAIN], RUN, chain, "k1", 1, 0))

    def test_several_letters(self):
        post = [CHAIN, Letter(0, [], "k0", [(0, "s0", 0, 6)])]
        run = [[2, 4, 5], [0, 6]]
        self.assertTrue(knows_held(post, run, [("s0", 6)], "s0", 6, 1))
        self.assertFalse(knows_held(post, run, [("s0", 5)], "s0", 5, 1))
        self.assertTrue(knows_by(post, run, [("s0", 6)], 1, 1, 6))
        self.assertTrue(knows_by(post, run, [("s0", 6)], 0, 1, 4))

    def test_many_posts(self):
        found = set()
        for seed in range(CASES):
            post, dice = random_post(seed + 1000, 2), random.Random(seed)
            runs = runs_of(post)
            run, chain = dice.choice(runs), random_links(dice, 4)
            last = last_runs(post, runs, run, chain)
            for number, letter in enumerate(post):
                for event, hour in itertools.product(range(len(letter.hops) + 1), range(9)):
                    by = all(other[number][event] <= hour for other in last)
                    since = all(other[number][event] >= hour for other in last)
                    self.assertIs(knows_by(post, run, chain, number, event, hour), by)
                    self.assertIs(knows_from(post, run, chain, number, event, hour), since)
                    found |= {(by, since)}
                for agent, hour in itertools.product(AGENTS, range(0, 9, 2)):
                    expected = all(any(coming[0] == number for coming in slow_seen(post, other, agent, hour))
                                   for other in last)
                    self.assertIs(knows_held(post, run, chain, agent, hour, number), expected)
        self.assertEqual(len(found), 4)


class FirstHourTest(unittest.TestCase):
    def test_one_agent(self):
        self.assertEqual(first_hour([CHAIN], RUN, ["s0"], 0, 1, 4), 4)
        self.assertEqual(first_hour([CHAIN], RUN, ["s0"], 0, 1, 5), 0)
        self.assertEqual(first_hour([CHAIN], RUN, ["k0"], 0, 1, 5), 0)
        self.assertEqual(first_hour([CHAIN], RUN, ["k0"], 0, 2, 5), 5)
        self.assertEqual(first_hour((CHAIN,), RUN, ("k0",), 0, 2, 6), 5)
        self.assertEqual(first_hour([CHAIN], RUN, ["s0"], 0, 2, 6), 4)
        self.assertIsNone(first_hour([CHAIN], RUN, ["s0"], 0, 2, 5))
        self.assertIsNone(first_hour([CHAIN], RUN, ["k0"], 0, 1, 4))
        self.assertIsNone(first_hour([CHAIN], RUN, ["s0"], 0, 1, 3))

    def test_no_agents(self):
        self.assertEqual(first_hour([CHAIN], RUN, [], 0, 2, 5), 0)
        self.assertEqual(first_hour([CHAIN], RUN, (), 0, 2, 5, 0), 0)
        self.assertIsNone(first_hour([CHAIN], RUN, [], 0, 2, 4))
        self.assertIsNone(first_hour([CHAIN], RUN, [], 0, 2, 4, 0))

    def test_the_limit(self):
        self.assertEqual(first_hour([CHAIN], RUN, ["k0"], 0, 2, 5, 5), 5)
        self.assertIsNone(first_hour([CHAIN], RUN, ["k0"], 0, 2, 5, 4))
        self.assertIsNone(first_hour([CHAIN], RUN, ["k0"], 0, 2, 5, limit=0))
        self.assertEqual(first_hour([CHAIN], RUN, ["k0"], 0, 2, 7, limit=0), 0)
        self.assertEqual(first_hour([CHAIN], RUN, ["k0"], 0, 2, 5, 96), 5)
        self.assertIsNone(first_hour([CHAIN], RUN, ["k0"], 0, 2, 4, 96))
        # Only at hour 60 does the last copy come; the limit that is left out includes it.
        slow = Letter(24, [], "k0", [(event, "s0" if event == 5 else "k1", 0, 6) for event in range(6)])
        run = [[24, 30, 36, 42, 48, 54, 60]]
        self.assertEqual(first_hour([slow], run, ["s0"], 0, 6, 60), 0)
        self.assertEqual(first_hour([slow], [[24, 24, 24, 24, 24, 24, 24]], ["s0"], 0, 6, 24), 24)
        later = Letter(24, [], "k0", [(event, "k1", 6, 6) for event in range(5)] + [(5, "s0", 5, 6)])
        run = [[24, 30, 36, 42, 48, 54, 59]]
        self.assertEqual(first_hour([later], run, ["s0"], 0, 6, 59), 59)
        self.assertIsNone(first_hour([later], run, ["s0"], 0, 6, 59, 58))

    def test_one_agent_several_times_and_several_agents(self):
        post = [Letter(0, [], "k0", [(0, "s0", 0, 2), (1, "k0", 0, 2), (2, "s0", 0, 2)])]
        run = [[0, 1, 2, 3]]
        self.assertEqual(first_hour(post, run, ["s0"], 0, 1, 1), 1)
        self.assertEqual(first_hour(post, run, ["s0", "s0", "s0"], 0, 1, 1), 1)
        # The keeper knows at hour 2 that the ship was reached by hour 2.
        self.assertEqual(first_hour(post, run, ["k0"], 0, 1, 2), 0)
        self.assertIsNone(first_hour(post, run, ["k0"], 0, 1, 1))
        self.assertEqual(first_hour(post, run, ["s0", "k0"], 0, 2, 3), 3)
        self.assertIsNone(first_hour(post, run, ["k0", "s0"], 0, 2, 3))
        self.assertEqual(first_hour(post, run, ["k0", "s0"], 0, 2, 4), 0)

    def test_many_posts(self):
        for seed in range(CASES):
            post, dice = random_post(seed + 3000, 2), random.Random(seed)
            runs = runs_of(post)
            run = dice.choice(runs)
            agents = [dice.choice(AGENTS) for _ in range(dice.randint(0, 2))]
            for number, letter in enumerate(post):
                event, by = dice.randint(0, len(letter.hops)), dice.randint(0, 7)
                hours = [hour for hour in range(10)
                         if all(other[number][event] <= by for other in
                                last_runs(post, runs, run, [(agent, hour) for agent in agents]))]
                expected = hours[0] if hours else None
                self.assertEqual(first_hour(post, run, agents, number, event, by, 9), expected)


class AlikeReferenceTest(unittest.TestCase):
    def test_one_link_is_what_is_alike(self):
        for seed in range(20):
            post, dice = random_post(seed, 2), random.Random(seed)
            runs = runs_of(post)
            run = dice.choice(runs)
            self.assertEqual(last_runs(post, runs, run, [("k0", 3)]), alike_to(post, runs, run, "k0", 3))


if __name__ == "__main__":
    unittest.main()
