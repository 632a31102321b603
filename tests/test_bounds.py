"""Points 38 and 39: the latest and the earliest hours of events, and what binds them."""

import itertools
import random
import unittest

from fogfleet.bounds import (binding, earliest_alike, earliest_fit, latest_alike, latest_fit,
                             most_between)
from fogfleet.errors import FleetError, NoRun
from fogfleet.letters import Letter
from tests.helpers import (AGENTS, HUGE, alike_to, extreme, long_post, random_post, rows_of, runs_of,
                           slow_seen)

CHAIN = Letter(2, [0, 1], "k1", [(0, "s0", 1, 3), (1, "k0", 0, 2)])
# Two branches; events 2 and 3 are both at s3, events 0 and 4 both at k0.
TREE = Letter(5, [], "k0", [(0, "k1", 1, 2), (0, "s3", 2, 6), (1, "s3", 0, 3), (1, "k0", 4, 5)])
CASES = 150


class AlikeTest(unittest.TestCase):
    def test_examples_of_the_document(self):
        self.assertEqual(latest_alike([CHAIN], [[2, 4, 5]], "k0", 6), [[2, 5, 5]])
        self.assertEqual(earliest_alike([CHAIN], [[2, 4, 5]], "k0", 4), [[2, 3, 5]])

    def test_an_agent_that_sees_nothing(self):
        run = [[2, 4, 5]]
        for agent in ("k7", "s1"):
            self.assertEqual(latest_alike([CHAIN], run, agent, 96), [[2, 5, 7]])
            self.assertEqual(earliest_alike([CHAIN], run, agent, 96), [[2, 3, 3]])
        self.assertEqual(latest_alike([CHAIN], run, "k0", 0), [[2, 5, 7]])
        self.assertEqual(earliest_alike([CHAIN], run, "k0", 0), [[2, 3, 3]])

    def test_an_event_at_the_hour_and_one_hour_later(self):
        run = [[2, 4, 5]]
        self.assertEqual(latest_alike([CHAIN], run, "k0", 5), [[2, 5, 5]])
        self.assertEqual(latest_alike((CHAIN,), run, "k0", 4), [[2, 5, 7]])
        self.assertEqual(earliest_alike((CHAIN,), run, "k0", 5), [[2, 3, 5]])
        self.assertEqual(earliest_alike([CHAIN], run, "k0", 4), [[2, 3, 5]])
        self.assertEqual(earliest_alike([CHAIN], run, "k0", 3), [[2, 3, 4]])
        # What does not come until hour 6 raises the hop before it, too.
        self.assertEqual(earliest_alike([CHAIN], [[2, 5, 7]], "k0", 6), [[2, 5, 7]])
        self.assertEqual(earliest_alike([CHAIN], [[2, 5, 7]], "k0", 5), [[2, 4, 6]])
        self.assertEqual(latest_alike([CHAIN], [[2, 3, 3]], "s0", 3), [[2, 3, 5]])
        self.assertEqual(latest_alike([CHAIN], [[2, 4, 4]], "s0", 3), [[2, 5, 7]])
        self.assertEqual(earliest_alike([CHAIN], [[2, 5, 5]], "s0", 3), [[2, 4, 4]])

    def test_two_events_of_one_way_at_the_agent(self):
        letter = Letter(0, [], "k0", [(0, "s0", 0, 6), (1, "k1", 0, 6), (2, "s0", 0, 6), (3, "k2", 1, 2)])
        run = [[0, 2, 4, 5, 6]]
        self.assertEqual(latest_alike([letter], run, "s0", 5), [[0, 2, 5, 5, 7]])
        self.assertEqual(earliest_alike([letter], run, "s0", 5), [[0, 2, 2, 5, 6]])
        self.assertEqual(latest_alike([letter], run, "s0", 4), [[0, 2, 8, 14, 16]])
        self.assertEqual(earliest_alike([letter], run, "s0", 4), [[0, 2, 2, 5, 6]])
        self.assertEqual(latest_alike([letter], run, "s0", 1), [[0, 6, 12, 18, 20]])
        self.assertEqual(earliest_alike([letter], run, "s0", 1), [[0, 2, 2, 2, 3]])

    def test_hours_0_and_96(self):
        letter = Letter(0, [], "k0", [(0, "s0", 0, 2), (1, "k0", 0, 2)])
        self.assertEqual(latest_alike([letter], [[0, 0, 0]], "k0", 0), [[0, 0, 0]])
        self.assertEqual(earliest_alike([letter], [[0, 1, 1]], "k0", 0), [[0, 0, 1]])
        self.assertEqual(earliest_alike([letter], [[0, 1, 1]], "s0", 0), [[0, 1, 1]])
        self.assertEqual(latest_alike([letter], [[0, 0, 1]], "s0", 0), [[0, 0, 2]])
        self.assertEqual(latest_alike([letter], [[0, 0, 1]], "k0", 96), [[0, 1, 1]])
        self.assertEqual(earliest_alike([letter], [[0, 1, 3]], "k0", 96), [[0, 1, 3]])

    def test_no_letters_and_one_letter_twice(self):
        for function in (latest_alike, earliest_alike):
            self.assertEqual(function([], [], "k0", 5), [])
        post, run = [CHAIN, CHAIN], [[2, 4, 5], [2, 4, 6]]
        self.assertEqual(latest_alike(post, run, "k0", 5), [[2, 5, 5], [2, 5, 7]])
        self.assertEqual(earliest_alike(post, run, "k0", 5), [[2, 3, 5], [2, 4, 6]])

    def test_the_run_stays_as_it_is(self):
        run = [[2, 4, 5]]
        latest_alike([CHAIN], run, "k0", 6)[0][1] = 99
        earliest_alike([CHAIN], run, "k0", 4)
        self.assertEqual(run, [[2, 4, 5]])

    def test_a_known_end_of_a_long_way(self):
        letter = Letter(0, [], "k0", [(event, "s0" if event == 5 else "k1", 0, 2) for event in range(6)])
        self.assertEqual(latest_alike([letter], [[0] * 7], "s0", 0), [[0] * 7])
        self.assertEqual(latest_alike([letter], [[0, 0, 0, 0, 0, 1, 3]], "s0", 3), [[0, 2, 3, 3, 3, 3, 3]])
        latest = [[0, 2, 4, 6, 8, 10, 12]]
        self.assertEqual(earliest_alike([letter], latest, "s0", 12), latest)
        self.assertEqual(earliest_alike([letter], latest, "s0", 11), latest)
        self.assertEqual(earliest_alike([letter], latest, "s0", 8), [[0, 0, 1, 3, 5, 7, 9]])

    def test_long_ways(self):
        for seed in range(CASES):
            self.check_alike(long_post(seed), random.Random(seed))

    def test_many_posts(self):
        for seed in range(CASES):
            self.check_alike(random_post(seed, 2), random.Random(seed))

    def check_alike(self, post, dice):
        runs = runs_of(post)
        for _ in range(4):
            run, agent, hour = dice.choice(runs), dice.choice(AGENTS + ["k9"]), dice.randint(0, 8)
            alike = alike_to(post, runs, run, agent, hour)
            for function, choice in ((latest_alike, max), (earliest_alike, min)):
                found = function(post, run, agent, hour)
                self.assertEqual(found, extreme(alike, choice))
                self.assertIn(found, alike)


class FitTest(unittest.TestCase):
    def refuse(self, post, agent, hour, comings):
        for function in (latest_fit, earliest_fit):
            for kind in (list, tuple):
                with self.assertRaises(NoRun) as caught:
                    function(post, agent, hour, kind(comings))
                self.assertEqual(caught.exception.agent, agent)
                self.assertIsInstance(caught.exception, FleetError)

    def test_comings_of_a_run(self):
        for kind in (list, tuple):
            comings = kind([(0, 2, 5)])
            self.assertEqual(latest_fit([CHAIN], "k0", 6, comings), [[2, 5, 5]])
            self.assertEqual(earliest_fit([CHAIN], "k0", 6, comings), [[2, 3, 5]])
            self.assertEqual(latest_fit([CHAIN], "k0", 4, kind([])), [[2, 5, 7]])
            self.assertEqual(earliest_fit([CHAIN], "k0", 4, kind([])), [[2, 3, 5]])
        self.assertEqual(latest_fit([], "k0", 4, []), [])
        self.assertEqual(earliest_fit((), "k0", 4, ()), [])

    def test_events_that_do_not_come_any_more(self):
        self.assertEqual(earliest_fit([CHAIN], "k0", 6, []), [[2, 5, 7]])
        self.refuse([CHAIN], "k0", 7, [])
        self.refuse([CHAIN], "s0", 5, [])
        self.assertEqual(earliest_fit([CHAIN], "s0", 4, []), [[2, 5, 5]])

    def test_letters_and_events_that_do_not_exist(self):
        for letter, event in ((1, 0), (-1, 0), (-1, 2), (HUGE, 0), (-HUGE, 0), (0, 3), (0, -1), (0, HUGE)):
            self.refuse([CHAIN], "k0", 96, [(letter, event, 5)])
            self.refuse([CHAIN], "k0", 96, sorted([(0, 2, 5), (letter, event, 5)]))
        self.refuse([], "k0", 96, [(0, 0, 5)])
        self.refuse([], "k0", 96, [(-1, 0, 5)])

    def test_an_event_at_another_agent(self):
        self.refuse([CHAIN], "k0", 96, [(0, 1, 4), (0, 2, 5)])
        self.refuse([CHAIN], "k0", 96, [(0, 0, 2), (0, 2, 5)])
        self.refuse([CHAIN], "s0", 96, [(0, 2, 5)])
        self.refuse([CHAIN], "s3", 96, [(0, 0, 2)])
        self.refuse([CHAIN], "k0", 2, [(0, 0, 2)])

    def test_an_event_a_second_time(self):
        self.refuse([CHAIN], "k0", 96, [(0, 2, 5), (0, 2, 5)])
        self.refuse([CHAIN], "k0", 96, [(0, 2, 5), (0, 2, 6)])
        self.refuse([CHAIN], "k1", 96, [(0, 0, 2), (0, 0, 2)])

    def test_an_hour_after_the_hour(self):
        self.refuse([CHAIN], "k0", 4, [(0, 2, 5)])
        self.refuse([CHAIN], "k0", 5, [(0, 2, 6)])
        self.refuse([CHAIN], "k1", 1, [(0, 0, 2)])
        self.assertEqual(latest_fit([CHAIN], "k0", 5, [(0, 2, 5)]), [[2, 5, 5]])

    def test_an_hour_out_of_its_bounds(self):
        for coming in (2, 8, 0, -1, HUGE, -HUGE, 96):
            self.refuse([CHAIN], "k0", 96, [(0, 2, coming)])
        for coming in (3, 7):
            self.assertEqual(latest_fit([CHAIN], "k0", 96, [(0, 2, coming)])[0][2], coming)
        for coming in (1, 3, 0, HUGE):
            self.refuse([CHAIN], "k1", 96, [(0, 0, coming)])
        # Each hour is within its bounds, but they do not go together.
        letter = Letter(0, [], "k0", [(0, "s0", 0, 6), (1, "s0", 1, 2)])
        self.refuse([letter], "s0", 96, [(0, 1, 3), (0, 2, 3)])
        self.refuse([letter], "s0", 96, [(0, 1, 3), (0, 2, 6)])
        self.assertEqual(latest_fit([letter], "s0", 96, [(0, 1, 3), (0, 2, 5)]), [[0, 3, 5]])
        branches = Letter(0, [], "k0", [(0, "k1", 0, 6), (1, "s0", 1, 1), (1, "s0", 2, 3)])
        self.refuse([branches], "s0", 96, [(0, 2, 4), (0, 3, 4)])
        self.refuse([branches], "s0", 96, [(0, 2, 4), (0, 3, 7)])
        self.assertEqual(latest_fit([branches], "s0", 96, [(0, 2, 4), (0, 3, 6)]), [[0, 3, 4, 6]])

    def test_a_writing_that_is_left_out(self):
        self.refuse([CHAIN], "k1", 2, [])
        self.assertEqual(latest_fit([CHAIN], "k1", 1, []), [[2, 5, 7]])
        self.assertEqual(latest_fit([CHAIN], "k1", 2, [(0, 0, 2)]), [[2, 5, 7]])
        self.assertEqual(earliest_fit([CHAIN], "k1", 2, [(0, 0, 2)]), [[2, 3, 3]])
        self.refuse([CHAIN, CHAIN], "k1", 2, [(1, 0, 2)])

    def test_many_posts(self):
        refused = 0
        for seed in range(CASES):
            post, dice = random_post(seed, 2), random.Random(seed)
            runs = runs_of(post)
            for _ in range(6):
                agent, hour = dice.choice(AGENTS), dice.randint(0, 8)
                comings = slow_seen(post, dice.choice(runs), agent, hour)
                if dice.random() < 0.6:
                    comings = self.spoiled(dice, post, comings)
                fitting = [run for run in runs if slow_seen(post, run, agent, hour) == comings]
                if fitting:
                    self.assertEqual(latest_fit(post, agent, hour, comings), extreme(fitting, max))
                    self.assertEqual(earliest_fit(post, agent, hour, tuple(comings)), extreme(fitting, min))
                else:
                    self.refuse(post, agent, hour, comings)
                    refused += 1
        self.assertGreater(refused, 50)

    def spoiled(self, dice, post, comings):
        comings = list(comings)
        if comings and dice.random() < 0.7:
            at = dice.randrange(len(comings))
            letter, event, coming = comings[at]
            comings[at] = (letter, event, coming + dice.choice([-1, 1]))
            return dice.choice([comings, comings[:at] + comings[at + 1:]])
        return sorted(comings + [(dice.randint(-1, len(post)), dice.randint(-1, 4), dice.randint(0, 8))])


class MostBetweenTest(unittest.TestCase):
    def test_example_of_the_document(self):
        self.assertEqual(most_between(CHAIN, 2, 1), 0)

    def test_events_on_one_way(self):
        self.assertEqual(most_between(CHAIN, 0, 1), 3)
        self.assertEqual(most_between(CHAIN, 0, 2), 5)
        self.assertEqual(most_between(CHAIN, 1, 2), 2)
        self.assertEqual(most_between(CHAIN, 1, 0), -1)
        self.assertEqual(most_between(CHAIN, 2, 0), -1)
        self.assertEqual(most_between(TREE, 4, 0), -5)
        self.assertEqual(most_between(TREE, 4, 1), -4)

    def test_different_branches(self):
        self.assertEqual(most_between(TREE, 2, 3), 2 + 3 - 2)
        self.assertEqual(most_between(TREE, 3, 2), 6 - 1 - 0)
        self.assertEqual(most_between(TREE, 3, 4), 5 - 0)
        self.assertEqual(most_between(TREE, 4, 3), 3 - 4)

    def test_an_event_and_itself(self):
        for letter in (CHAIN, TREE, Letter(9, [], "k0", [])):
            for event in range(len(letter.hops) + 1):
                self.assertEqual(most_between(letter, event, event), 0)

    def test_many_letters(self):
        for seed in range(CASES):
            for letter in random_post(seed):
                rows = rows_of(letter)
                for first, second in itertools.product(range(len(rows[0])), repeat=2):
                    expected = max(row[second] - row[first] for row in rows)
                    self.assertEqual(most_between(letter, first, second), expected)


class BindingTest(unittest.TestCase):
    def test_the_source_with_the_least_bound(self):
        self.assertEqual(binding([CHAIN], [[2, 4, 4]], "k0", 6, 0, 1), (2, 4))
        self.assertEqual(binding([CHAIN], [[2, 4, 5]], "k0", 4, 0, 1), (0, 5))
        self.assertEqual(binding([CHAIN], [[2, 4, 5]], "k0", 4, 0, 2), (0, 7))
        self.assertEqual(binding([CHAIN], [[2, 4, 5]], "s0", 4, 0, 2), (1, 6))
        self.assertEqual(binding((CHAIN,), [[2, 4, 5]], "k0", 6, 0, 2), (2, 5))
        self.assertEqual(binding([CHAIN], [[2, 4, 5]], "k0", 6, 0, 0), (0, 2))

    def test_the_least_number_among_several(self):
        # Events 0 and 2 both bound event 1 by hour 5.
        self.assertEqual(binding([CHAIN], [[2, 5, 5]], "k0", 6, 0, 1), (0, 5))
        letter = Letter(0, [], "k0", [(0, "s0", 0, 3), (0, "s0", 0, 3), (1, "k1", 1, 2), (2, "k1", 1, 2)])
        self.assertEqual(binding([letter], [[0, 1, 3, 2, 4]], "s0", 9, 0, 3), (1, 3))
        self.assertEqual(binding([letter], [[0, 3, 3, 4, 4]], "s0", 9, 0, 3), (0, 5))
        tie = Letter(0, [], "k0", [(0, "s0", 0, 4), (1, "s0", 0, 2), (2, "k1", 0, 2)])
        self.assertEqual(binding([tie], [[0, 1, 3, 4]], "s0", 9, 0, 3), (1, 5))
        self.assertEqual(binding([tie], [[0, 1, 2, 4]], "s0", 9, 0, 3), (2, 4))

    def test_only_events_of_this_letter_are_sources(self):
        early, late = Letter(0, [], "k0", [(0, "s0", 0, 6)]), Letter(3, [], "k0", [(0, "s0", 0, 6)])
        post, run = [early, late], [[0, 1], [3, 9]]
        self.assertEqual(binding(post, run, "s0", 5, 1, 1), (0, 9))
        self.assertEqual(binding(post, run, "s0", 5, 0, 1), (1, 1))
        self.assertEqual(binding(post, run, "s0", 9, 1, 1), (0, 9))

    def test_many_posts(self):
        for seed in range(CASES):
            post, dice = random_post(seed), random.Random(seed)
            run = [dice.choice(rows_of(letter)) for letter in post]
            for agent, hour in itertools.product(AGENTS, (0, 2, 4, 9)):
                latest = latest_alike(post, run, agent, hour)
                for number, letter in enumerate(post):
                    for event in range(len(letter.hops) + 1):
                        self.check(post, run, agent, hour, number, event, latest)

    def check(self, post, run, agent, hour, number, event, latest):
        source, bound = binding(post, run, agent, hour, number, event)
        self.assertEqual(bound, latest[number][event])
        seen = [other for letter, other, _ in slow_seen(post, run, agent, hour) if letter == number]
        bounds = [(run[number][other] + most_between(post[number], other, event), other)
                  for other in [0] + seen]
        self.assertEqual((bound, source), min(bounds))


if __name__ == "__main__":
    unittest.main()
