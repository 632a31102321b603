"""Points 36 and 37: runs, and what agents see and hold in them."""

import itertools
import random
import unittest

from fogfleet.letters import Letter
from fogfleet.runs import alike_runs, earliest_run, held, is_run, latest_run, seen
from tests.helpers import AGENTS, HUGE, random_post, runs_of, slow_seen

CHAIN = Letter(2, [0, 1], "k1", [(0, "s0", 1, 3), (1, "k0", 0, 2)])
TREE = Letter(5, [], "k0", [(0, "k1", 1, 1), (0, "s3", 2, 6), (1, "s3", 0, 3), (1, "k0", 4, 5)])


class IsRunTest(unittest.TestCase):
    def test_runs(self):
        post = [CHAIN, TREE]
        for run in ([[2, 3, 3], [5, 6, 7, 6, 10]], [[2, 5, 7], [5, 6, 11, 9, 11]],
                    [[2, 4, 5], [5, 6, 9, 8, 10]]):
            self.assertIs(is_run(post, run), True)
            self.assertIs(is_run(tuple(post), run), True)

    def test_no_letters(self):
        self.assertIs(is_run([], []), True)
        self.assertIs(is_run((), []), True)
        self.assertIs(is_run([], [[]]), False)
        self.assertIs(is_run([], [[0]]), False)

    def test_too_few_and_too_many_lists(self):
        rows = [[2, 3, 3], [5, 6, 7, 6, 10]]
        self.assertFalse(is_run([CHAIN, TREE], []))
        self.assertFalse(is_run([CHAIN, TREE], rows[:1]))
        self.assertFalse(is_run([CHAIN, TREE], rows[::-1]))
        self.assertFalse(is_run([CHAIN, TREE], rows + [[2, 3, 3]]))
        self.assertFalse(is_run([CHAIN], rows))

    def test_too_few_and_too_many_hours(self):
        for row in ([], [2], [2, 3], [2, 3, 3, 3], [2, 3, 3, 3, 3]):
            self.assertFalse(is_run([CHAIN], [row]))
            self.assertFalse(is_run([TREE, CHAIN], [[5, 6, 7, 6, 10], row]))
        self.assertTrue(is_run([Letter(3, [], "k0", [])], [[3]]))
        self.assertFalse(is_run([Letter(3, [], "k0", [])], [[]]))

    def test_the_hour_of_the_letter(self):
        for first in (-2, 0, 1, 3):
            self.assertFalse(is_run([CHAIN], [[first, first + 1, first + 1]]))

    def test_bounds_of_each_hop(self):
        for first, second in itertools.product(range(0, 10), repeat=2):
            right = 3 <= first <= 5 and first <= second <= first + 2
            self.assertIs(is_run([CHAIN], [[2, first, second]]), right)
        for event in range(1, 5):
            parent, _, low, high = TREE.hops[event - 1]
            for last in range(low - 2, high + 3):
                hours = [5]
                for number, (at, _, least, _) in enumerate(TREE.hops, start=1):
                    hours.append(hours[at] + (last if number == event else least))
                self.assertIs(is_run([TREE], [hours]), low <= last <= high)

    def test_great_numbers(self):
        for great in (HUGE, -HUGE):
            for event in range(3):
                row = [2, 3, 3]
                row[event] = great
                self.assertFalse(is_run([CHAIN], [row]))
        self.assertFalse(is_run([CHAIN], [[HUGE, HUGE + 1, HUGE + 1]]))

    def test_many_posts(self):
        for seed in range(60):
            post, dice = random_post(seed), random.Random(seed)
            runs = runs_of(post)
            for run in runs:
                self.assertTrue(is_run(post, run))
            for _ in range(30):
                tried = [[hour + dice.choice([0, 0, 0, 0, 1, -1]) for hour in row]
                         for row in dice.choice(runs)]
                self.assertIs(is_run(post, tried), tried in runs)


class ExtremeRunsTest(unittest.TestCase):
    def test_chains_and_trees(self):
        self.assertEqual(earliest_run([CHAIN]), [[2, 3, 3]])
        self.assertEqual(latest_run([CHAIN]), [[2, 5, 7]])
        self.assertEqual(earliest_run((TREE, CHAIN)), [[5, 6, 7, 6, 10], [2, 3, 3]])
        self.assertEqual(latest_run((TREE, CHAIN)), [[5, 6, 11, 9, 11], [2, 5, 7]])

    def test_no_letters_and_no_hops(self):
        for function in (earliest_run, latest_run):
            self.assertEqual(function([]), [])
            self.assertEqual(function(()), [])
            self.assertEqual(function([Letter(24, [], "k0", [])]), [[24]])

    def test_one_letter_object_twice(self):
        for function, row in ((earliest_run, [2, 3, 3]), (latest_run, [2, 5, 7])):
            run = function([CHAIN, CHAIN])
            self.assertEqual(run, [row, row])
            run[0].append(0)
            self.assertEqual(run[1], row)
            self.assertEqual(function([CHAIN, CHAIN]), [row, row])

    def test_the_limits(self):
        chain = Letter(24, [], "k0", [(event, "s0", 6, 6) for event in range(6)])
        self.assertEqual(earliest_run([chain] * 6), [[24, 30, 36, 42, 48, 54, 60]] * 6)
        star = Letter(0, [], "k0", [(0, "s0", 0, 6)] * 6)
        self.assertEqual(earliest_run([star]), [[0] * 7])
        self.assertEqual(latest_run([star]), [[0] + [6] * 6])

    def test_many_posts(self):
        for seed in range(150):
            post = random_post(seed)
            runs = runs_of(post)
            for function, choice in ((earliest_run, min), (latest_run, max)):
                run = function(post)
                self.assertIn(run, runs)
                for letter, row in enumerate(run):
                    for event, hour in enumerate(row):
                        self.assertEqual(hour, choice(other[letter][event] for other in runs))


class SeenTest(unittest.TestCase):
    def test_keepers_and_ships(self):
        post, run = [CHAIN, TREE], [[2, 4, 5], [5, 6, 9, 8, 10]]
        self.assertEqual(seen(post, run, "k0", 96), [(0, 2, 5), (1, 0, 5), (1, 4, 10)])
        self.assertEqual(seen(post, run, "k1", 96), [(0, 0, 2), (1, 1, 6)])
        self.assertEqual(seen(post, run, "s0", 96), [(0, 1, 4)])
        self.assertEqual(seen(post, run, "s3", 96), [(1, 2, 9), (1, 3, 8)])
        self.assertEqual(seen(tuple(post), run, "s1", 96), [])
        self.assertEqual(seen(post, run, "k9", 0), [])
        self.assertEqual(held(post, run, "k0", 96), [0, 1])
        self.assertEqual(held(post, run, "s3", 96), [1])
        self.assertEqual(held(tuple(post), run, "s0", 96), [0])
        self.assertEqual(held(post, run, "s1", 96), [])

    def test_an_event_at_the_hour_and_one_hour_later(self):
        run = [[2, 4, 5]]
        self.assertEqual(seen([CHAIN], run, "k0", 4), [])
        self.assertEqual(seen([CHAIN], run, "k0", 5), [(0, 2, 5)])
        self.assertEqual(seen([CHAIN], run, "k0", 6), [(0, 2, 5)])
        self.assertEqual(held([CHAIN], run, "k0", 4), [])
        self.assertEqual(held([CHAIN], run, "k0", 5), [0])
        self.assertEqual(seen([CHAIN], run, "s0", 3), [])
        self.assertEqual(seen([CHAIN], run, "s0", 4), [(0, 1, 4)])

    def test_the_writing(self):
        self.assertEqual(seen([CHAIN], [[2, 4, 5]], "k1", 1), [])
        self.assertEqual(seen([CHAIN], [[2, 4, 5]], "k1", 2), [(0, 0, 2)])
        self.assertEqual(held([CHAIN], [[2, 4, 5]], "k1", 1), [])
        self.assertEqual(held([CHAIN], [[2, 4, 5]], "k1", 2), [0])

    def test_hours_0_and_96(self):
        letter = Letter(0, [], "k0", [(0, "k0", 0, 0), (0, "s0", 0, 6)])
        self.assertEqual(seen([letter], [[0, 0, 0]], "k0", 0), [(0, 0, 0), (0, 1, 0)])
        self.assertEqual(seen([letter], [[0, 0, 0]], "s0", 0), [(0, 2, 0)])
        self.assertEqual(seen([letter], [[0, 0, 1]], "s0", 0), [])
        self.assertEqual(seen([letter], [[0, 0, 6]], "s0", 96), [(0, 2, 6)])

    def test_two_events_of_a_letter_at_one_agent(self):
        run = [[5, 6, 9, 8, 10]]
        self.assertEqual(seen([TREE], run, "s3", 8), [(0, 3, 8)])
        self.assertEqual(held([TREE], run, "s3", 7), [])
        self.assertEqual(held([TREE], run, "s3", 8), [0])
        self.assertEqual(held([TREE], run, "s3", 9), [0])
        self.assertEqual(held([TREE, TREE], run * 2, "s3", 9), [0, 1])

    def test_many_posts(self):
        for seed in range(120):
            post, dice = random_post(seed), random.Random(seed)
            run = dice.choice(runs_of(post))
            for agent, hour in itertools.product(AGENTS + ["k7", "s1"], [0, 1, 2, 3, 4, 5, 96]):
                expected = slow_seen(post, run, agent, hour)
                self.assertEqual(seen(post, run, agent, hour), expected)
                letters = sorted({letter for letter, _, _ in expected})
                self.assertEqual(held(post, run, agent, hour), letters)


class AlikeRunsTest(unittest.TestCase):
    def alike(self, first, second, agent, hour):
        return alike_runs([CHAIN], [first], [second], agent, hour)

    def test_runs_that_differ_before_at_and_after_the_hour(self):
        for early, late, changes in (([2, 4, 4], [2, 4, 5], 4), ([2, 4, 5], [2, 4, 6], 5)):
            for hour in range(97):
                self.assertIs(self.alike(early, late, "k0", hour), hour < changes)
                self.assertIs(self.alike(late, early, "k0", hour), hour < changes)
                self.assertIs(self.alike(early, early, "k0", hour), True)

    def test_runs_that_differ_at_other_agents(self):
        for hour in (0, 3, 4, 5, 96):
            self.assertTrue(self.alike([2, 3, 5], [2, 4, 5], "k0", hour))
            self.assertTrue(self.alike([2, 3, 5], [2, 4, 5], "k1", hour))
            self.assertTrue(self.alike([2, 3, 5], [2, 4, 5], "s1", hour))
            self.assertIs(self.alike([2, 3, 5], [2, 4, 5], "s0", hour), hour < 3)

    def test_the_same_hours_of_different_events(self):
        # The agent sees which event it is, not only that something comes.
        letter = Letter(0, [], "k0", [(0, "s0", 1, 2), (0, "s0", 1, 2)])
        for hour in (0, 1, 2):
            self.assertIs(alike_runs([letter], [[0, 1, 2]], [[0, 2, 1]], "s0", hour), hour == 0)
        post = [Letter(0, [], "k0", [(0, "s0", 1, 2)])] * 2
        self.assertFalse(alike_runs(post, [[0, 1], [0, 2]], [[0, 2], [0, 1]], "s0", 1))

    def test_no_letters(self):
        self.assertIs(alike_runs([], [], [], "k0", 0), True)

    def test_many_posts(self):
        for seed in range(80):
            post, dice = random_post(seed), random.Random(seed)
            runs = runs_of(post)
            for _ in range(20):
                first, second = dice.choice(runs), dice.choice(runs)
                agent, hour = dice.choice(AGENTS), dice.randint(0, 6)
                expected = slow_seen(post, first, agent, hour) == slow_seen(post, second, agent, hour)
                self.assertIs(alike_runs(post, first, second, agent, hour), expected)


if __name__ == "__main__":
    unittest.main()
