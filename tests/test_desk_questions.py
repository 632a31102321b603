"""Points 74 to 78 and 81: what a watch desk knows at an hour, and what its reports tell."""

import random
import unittest

from fogfleet.claims import format_claim
from fogfleet.desk import Desk, replay
from fogfleet.disbelief import reason, strength
from fogfleet.errors import BadClaim, FleetError, NoWorld
from fogfleet.knowing import ends, sure
from fogfleet.letters import Letter
from fogfleet.meeting import meeting_verdict
from fogfleet.questions import settling, verdict
from fogfleet.setting import Setting
from fogfleet.ships import Ship
from tests.desks import CHART, HORIZON, LETTERS, SHIPS, STILL, SlowDesk, do_at, example_desk, filled_desks
from tests.helpers import line_chart
from tests.worldlists import facts_of, random_chain, slow_true, successors, worlds_of

CASES = 150


def outcome(call):
    """What the call returns, or the error that it raises with its attributes."""
    try:
        return ("returned", call())
    except FleetError as error:
        return (type(error).__name__, vars(error))


def told(setting):
    """All that can be read off a setting."""
    reports = [(report.ship, report.hour, report.zone, report.inside, report.weight) for report in setting.reports]
    return setting.chart, setting.horizon, setting.ships, reports, setting.letters


class QuestionsTest(unittest.TestCase):
    def setUp(self):
        self.desk = example_desk()

    def refuse(self, call, agent="k0"):
        with self.assertRaises(NoWorld) as caught:
            call()
        self.assertEqual(caught.exception.agent, agent)

    def refuse_all(self, desk, at, ship=0, other=1):
        """No world fits the view at this hour, whichever ship is asked for."""
        for number in (ship, other):
            self.refuse(lambda: desk.corridor(number, at=at))
            self.refuse(lambda: desk.places(number, at=at))
            self.refuse(lambda: desk.judge(number, 0, [0], at=at))
            self.refuse(lambda: desk.settle(number, 0, [0], at=at))
            self.refuse(lambda: desk.settle(number, 0, [0], at=at, after=99))
            self.refuse(lambda: desk.ask(f"ship {number} in 0 at 0", at=at))
        self.refuse(lambda: desk.encounter(ship, other, at=at))
        self.refuse(lambda: desk.encounter(other, ship, at=at))


class ViewTest(QuestionsTest):
    def test_as_setting(self):
        self.desk.report(1, 2, [3, 0], weight=5)
        self.desk.receive(0, 1, 3, [True, False])
        self.desk.report(0, 3, [2], inside=False)
        self.desk.report(0, 3, [1])
        setting = self.desk.as_setting()
        self.assertIs(type(setting), Setting)
        self.assertEqual(told(setting), (CHART, HORIZON, tuple(SHIPS), [
            (0, 3, (1,), True, 1), (0, 3, (2,), False, 1), (1, 2, (0, 3), True, 5)], tuple(LETTERS)))
        self.desk.withdraw(0)
        self.assertEqual(len(self.desk.as_setting().reports), 2)
        self.assertEqual(len(setting.reports), 3)
        self.assertEqual(example_desk().as_setting().reports, ())

    def test_view_at(self):
        self.assertEqual(self.desk.view_at(0), ("k0", 0, (), (), None))
        self.desk.receive(0, 3, 3, [True, False])
        self.desk.receive(1, 0, 0, (False, True))
        self.desk.receive(0, 1, 2, [True, False])
        self.desk.report(0, 0, [1])
        one = ((1, 0, 0),)
        for at, comings, letters in ((0, one, ((1, (False, True)),)), (1, one, ((1, (False, True)),)),
                                     (2, ((0, 1, 2),) + one, ((0, (True, False)), (1, (False, True)))),
                                     (3, ((0, 1, 2), (0, 3, 3)) + one, ((0, (True, False)), (1, (False, True)))),
                                     (96, ((0, 1, 2), (0, 3, 3)) + one, ((0, (True, False)), (1, (False, True))))):
            self.assertEqual(self.desk.view_at(at), ("k0", at, comings, letters, None))
        self.desk.withdraw(1)
        self.assertEqual(self.desk.view_at(0), ("k0", 0, (), (), None))

    def test_view_at_of_receipts_that_no_run_has_together(self):
        letters = [Letter(0, [0], "k0", [(0, "k0", 0, 2), (1, "k0", 1, 2)])]
        desk = Desk(CHART, 3, [STILL, STILL], letters=letters)
        desk.receive(0, 1, 2, [True, False])
        desk.receive(0, 2, 1, [True, False])
        self.assertEqual(desk.view_at(1), ("k0", 1, ((0, 2, 1),), ((0, (True, False)),), None))
        self.assertEqual(desk.view_at(2)[2], ((0, 1, 2), (0, 2, 1)))
        desk.receive(0, 0, 0, [True, False])
        self.assertEqual(desk.view_at(0), ("k0", 0, ((0, 0, 0),), ((0, (True, False)),), None))
        for at in (0, 1, 2, 96):
            self.assertEqual(desk.view_at(at)[:2], ("k0", at))

    def test_many_desks(self):
        for seed in range(CASES):
            desk, slow, dice = filled_desks(seed)
            self.assertEqual(told(desk.as_setting()), told(slow.setting()))
            for at in list(range(slow.horizon + 4)) + [96]:
                self.assertEqual(desk.view_at(at), slow.view(at))


class KnowledgeTest(QuestionsTest):
    def test_reports_alone(self):
        desk = Desk(CHART, HORIZON, SHIPS)
        desk.report(0, 0, [0])
        desk.report(0, 3, [3, 2])
        desk.report(1, 2, [2])
        everywhere = list(range(4))
        for at in (0, 3, 96):
            # All standing reports belong to the knowledge, also those about later hours.
            self.assertEqual(desk.corridor(0, at=at), [[0], everywhere, everywhere, [2, 3]])
            self.assertEqual(desk.corridor(1, at=at), [everywhere, everywhere, [2], everywhere])
            self.assertEqual(desk.places(0, at=at), [[0], [0, 1], [1, 2], [2, 3]])
            self.assertEqual(desk.places(1, at=at), [[2]] * 4)
            self.assertEqual(desk.judge(0, 1, [0, 1], at=at), "sure")
            self.assertEqual(desk.judge(0, 1, [2, 3], at=at), "never")
            self.assertEqual(desk.judge(0, 1, [1], at=at), "open")
            # Ship 0 comes to place 3 by place 2, if at all.
            self.assertEqual(desk.encounter(0, 1, at=at), "always")
            self.assertEqual(desk.settle(0, 3, [3], at=at), (3, [3], True))
            self.assertEqual(desk.settle(0, 3, [2], at=at, after=3), (3, [2], True))
            self.assertTrue(desk.ask("ship 0 in 0,1 at 1", at=at))
            self.assertFalse(desk.ask("ship 0 in 1 at 1", at=at))

    def test_answers(self):
        # Keeper k1 saw ship 0 at place 0 or 1 at hour 1, and ship 1 not there.
        self.desk.receive(0, 1, 3, [True, False])
        self.desk.receive(1, 0, 0, [False, True])
        everywhere = list(range(4))
        for at in (0, 2):
            self.assertEqual(self.desk.corridor(0, at=at), [[0, 1, 3]] + [everywhere] * 3)
            self.assertEqual(self.desk.corridor(1, at=at), [[2]] + [everywhere] * 3)
        for at in (3, 96):
            if at == 96:
                # The other event would have come by now.
                self.refuse_all(self.desk, at)
                self.desk.receive(0, 3, 4, [True, False])
            self.assertEqual(self.desk.corridor(0, at=at), [[0, 1, 3], [0, 1], everywhere, everywhere])
            self.assertEqual(self.desk.corridor(1, at=at), [[2], [2, 3], everywhere, everywhere])
            self.assertEqual(self.desk.places(0, at=at), [[0, 1], [0, 1], [0, 1, 2], everywhere])
            self.assertEqual(self.desk.places(1, at=at), [[2]] * 4)
            self.assertEqual(self.desk.judge(0, 1, [0, 1], at=at), "sure")
            self.assertEqual(self.desk.judge(0, 0, [3], at=at), "never")
            self.assertTrue(self.desk.ask("k0@3 knows ship 0 in 0,1 at 1", at=at))
            self.assertEqual(self.desk.encounter(1, 0, at=at), "open")
        self.desk.report(0, 2, [0])
        self.desk.report(0, 3, [0])
        self.assertEqual(self.desk.encounter(0, 1, at=3), "never")
        self.desk.report(0, 2, [2])
        self.refuse_all(self.desk, 3)

    def test_an_event_that_should_have_come(self):
        # The writing of letter 1 at hour 0 belongs to the desk itself.
        self.refuse_all(self.desk, 0)
        self.refuse_all(self.desk, 96)
        self.desk.receive(1, 0, 0, [False, False])
        self.assertEqual(self.desk.judge(0, 0, [2], at=0), "never")
        self.assertEqual(self.desk.judge(0, 0, [2], at=2), "never")
        # Both copies of letter 0 come at the hours 3 and 4 at the latest.
        self.refuse_all(self.desk, 3)
        self.desk.receive(0, 1, 3, [False, True])
        self.assertEqual(self.desk.judge(1, 1, [0, 1], at=3), "sure")
        self.assertEqual(self.desk.judge(1, 1, [0, 1], at=2), "open")
        self.refuse_all(self.desk, 4)
        self.desk.receive(0, 3, 4, [False, True])
        self.assertEqual(self.desk.judge(1, 1, [0, 1], at=4), "sure")
        self.desk.withdraw(0)
        self.refuse_all(self.desk, 0)

    def test_a_ship_that_was_not_asked_for(self):
        self.desk.receive(1, 0, 0, [False, False])
        self.desk.report(1, 0, [0])
        self.desk.report(1, 1, [1])
        self.refuse_all(self.desk, 0)
        self.desk.undo()
        self.assertEqual(self.desk.places(1, at=0), [[0]] * 4)
        # An answer that the reports contradict counts from its hour on.
        self.desk.receive(0, 1, 2, [True, False])
        self.assertEqual(self.desk.places(1, at=1), [[0]] * 4)
        self.refuse_all(self.desk, 2)

    def test_receipts_that_no_run_has_together(self):
        letters = [Letter(0, [0], "k1", [(0, "k0", 0, 2), (1, "k0", 1, 2)])]
        desk = Desk(CHART, 3, [STILL, STILL], letters=letters)
        desk.receive(0, 1, 2, [True, False])
        desk.receive(0, 2, 2, [True, False])
        self.assertEqual(desk.judge(0, 0, [0], at=1), "open")
        self.refuse_all(desk, 2)
        self.refuse_all(desk, 96)
        desk.withdraw(1)
        desk.receive(0, 2, 3, [True, False])
        self.assertEqual(desk.judge(0, 0, [0], at=2), "sure")
        self.assertEqual(desk.judge(0, 0, [0], at=96), "sure")

    def test_settle_with_after(self):
        desk = Desk(CHART, 3, SHIPS)
        desk.report(0, 0, [0, 3])
        for after, expected in ((0, (0, [0], True)), (1, (1, [0, 1], True)), (2, None), (3, None), (4, None),
                                (96, None)):
            self.assertEqual(desk.settle(0, 0, [0], at=0, after=after), expected)
        self.assertIsNone(desk.settle(0, 0, [0, 3], at=0))
        self.assertEqual(desk.settle(0, 0, [0], at=0), (0, [0], True))

    def test_many_desks(self):
        words, refused = set(), 0
        for seed in range(CASES):
            desk, slow, dice = filled_desks(seed)
            for at in list(range(slow.horizon + 3)) + [96]:
                refused += self.check(desk, slow, dice, at, words)
        self.assertGreater(refused, 50)
        self.assertEqual(len(words), 7)

    def check(self, desk, slow, dice, at, words):
        ship = dice.randrange(len(slow.ships))
        other = (ship + 1) % len(slow.ships)
        hour, after = dice.randint(0, slow.horizon), dice.randint(0, slow.horizon + 1)
        zone = [place for place in range(slow.chart.size) if dice.random() < 0.5]
        worlds = slow.worlds(at)
        if not worlds:
            self.refuse_all(desk, at, ship, other if len(slow.ships) > 1 else ship)
            return 1
        corridor = slow.corridor(ship, at)
        self.assertEqual(desk.corridor(ship, at=at), corridor)
        zones = [sorted({drivings[ship][now] for drivings, _ in worlds}) for now in range(slow.horizon + 1)]
        self.assertEqual(desk.places(ship, at=at), zones)
        self.assertEqual(desk.places(ship, at=at), ends(slow.setting(), slow.view(at), [], ship))
        inside = {drivings[ship][hour] in zone for drivings, _ in worlds}
        word = desk.judge(ship, hour, zone, at=at)
        self.assertEqual(word, "open" if len(inside) == 2 else "sure" if True in inside else "never")
        self.assertEqual(word, verdict(slow.chart, slow.ships[ship], corridor, hour, zone)[0])
        words.add(("judge", word))
        expected = settling(slow.chart, slow.ships[ship], corridor, hour, zone, after)
        self.assertEqual(desk.settle(ship, hour, zone, at=at, after=after), expected)
        self.assertEqual(desk.settle(ship, hour, zone, at=at),
                         settling(slow.chart, slow.ships[ship], corridor, hour, zone))
        words.add(("settle", None if expected is None else 1) if word == "open" else ("judge", word))
        if len(slow.ships) > 1:
            met = {any(a == b for a, b in zip(drivings[ship], drivings[other])) for drivings, _ in worlds}
            word = desk.encounter(ship, other, at=at)
            self.assertEqual(word, "open" if len(met) == 2 else "always" if True in met else "never")
            self.assertEqual(word, meeting_verdict(slow.chart, slow.ships[ship], corridor, slow.ships[other],
                                                   slow.corridor(other, at))[0])
            words.add(("encounter", word if word == "open" else "sure"))
        return 0

    def test_answers_are_new_lists(self):
        self.desk.receive(1, 0, 0, [False, False])
        self.desk.report(0, 2, [1, 2])
        calls = [lambda: self.desk.corridor(0, at=2), lambda: self.desk.places(0, at=2),
                 lambda: self.desk.settle(0, 2, [1], at=2)[1:2]]
        for call in calls:
            before = [list(zone) for zone in call()]
            found = call()
            self.assertEqual(len({id(zone) for zone in found}), len(found))
            for zone in found:
                zone.append(99)
            self.assertEqual([list(zone) for zone in call()], before)


class AskTest(QuestionsTest):
    def setUp(self):
        super().setUp()
        self.desk.receive(1, 0, 0, [False, False])

    def refuse_claim(self, word, line, at=0):
        with self.assertRaises(BadClaim) as caught:
            self.desk.ask(line, at=at)
        self.assertEqual(caught.exception.word, word, line)

    def test_lines_that_are_no_claims(self):
        for line, word in (("", 1), ("ship 0", 3), ("ship 4 in 0 at 0", 2), ("k0@1 knows", 3),
                           ("k0@1 knows nothing", 3), ("ship 0 in 2,1 at 0", 4), ("ship 0 in 0 at 0 ", 7),
                           ("ships 0,0 apart", 2)):
            self.refuse_claim(word, line)
            self.refuse_claim(word, line, 96)

    def test_what_does_not_exist_here(self):
        for start, many in (("", 0), ("k9@999 knows ", 2), ("s1@0 knows k3@96 knows s0@7 knows ", 6)):
            for line, word in (
                    ("ship 2 in 0 at 0", 2), ("ship 3 out 9 at 99", 2), ("ship 1 in 4 at 0", 4),
                    ("ship 1 in 0,1,2,3,11 at 99", 4), ("ship 1 out 11 at 3", 4), ("ship 1 in - at 4", 6),
                    ("ship 1 out 3 at 24", 6), ("ships 0,2 together at 0", 2), ("ships 3,1 together at 99", 2),
                    ("ships 0,1 together at 4", 5), ("ships 1,2 apart", 2), ("ships 2,3 apart", 2),
                    ("ships 2,1 apart", 2), ("ships 3,0 apart", 2),
                    ("letter 3 event 0 by 7", 2), ("letter 5 event 6 from 0", 2), ("letter 0 event 4 by 7", 4),
                    ("letter 1 event 1 from 0", 4), ("letter 2 event 2 by 999", 4), ("s2 at 1 holds 0", 1),
                    ("s3 at 1 holds 5", 1), ("k7 at 7 holds 3", 5), ("s1 at 999 holds 5", 5)):
                self.refuse_claim(many + word, start + line)
        for start, word in (("s2@1 knows ", 1), ("k1@1 knows s3@0 knows ", 3),
                            ("s1@1 knows k1@9 knows s2@9 knows s3@9 knows ", 5)):
            for line in ("ship 0 in 0 at 0", "ship 3 in 0 at 0", "s3 at 1 holds 5"):
                self.refuse_claim(word, start + line)

    def test_what_exists_here(self):
        for line in ("ship 1 in 0,1,2,3 at 3", "ship 0 out - at 0", "s1@999 knows ship 0 in 0,1,2,3 at 3",
                     "letter 0 event 3 by 999", "letter 2 event 1 from 0", "k9@999 knows letter 0 event 1 by 3"):
            self.assertIs(self.desk.ask(line, at=0), True)
        for line in ("ship 1 in - at 3", "ships 1,0 apart", "ships 0,1 together at 3", "k9 at 999 holds 2",
                     "s1 at 999 holds 0", "letter 0 event 3 by 3"):
            self.assertIs(self.desk.ask(line, at=0), False)
        self.assertTrue(self.desk.ask("k1 at 999 holds 2", at=0))

    def test_wrong_claims_come_before_no_world(self):
        self.desk.report(0, 0, [])
        self.refuse(lambda: self.desk.ask("ship 0 in 0 at 0", at=0))
        self.refuse_claim(2, "ship 2 in 0 at 0")
        self.refuse_claim(7, "ship 0 in 0 at 0 at")
        self.refuse_claim(1, "s3@0 knows ship 0 in 0 at 0")

    def test_what_others_know(self):
        # The copy for ship 0 leaves the desk at hour 2 at the earliest.
        self.desk.receive(0, 1, 2, [True, False])
        self.assertTrue(self.desk.ask("ship 0 in 0,1 at 1", at=2))
        self.assertTrue(self.desk.ask("s0@3 knows ship 0 in 0,1 at 1", at=2))
        self.assertFalse(self.desk.ask("s1@3 knows ship 0 in 0,1 at 1", at=2))
        self.assertTrue(self.desk.ask("k1@1 knows ship 0 in 0,1 at 1", at=2))
        self.assertFalse(self.desk.ask("s0@2 knows s1@96 knows ship 0 in 0,1 at 1", at=2))
        self.assertTrue(self.desk.ask("s0@3 knows ship 1 out 0,1 at 1", at=2))
        self.assertFalse(self.desk.ask("s0@2 knows ship 1 out 0,1 at 1", at=2))

    def test_many_desks(self):
        found = set()
        for seed in range(CASES):
            desk, slow, dice = filled_desks(seed + 500)
            setting = slow.setting()
            everything = worlds_of(setting)
            for at in (0, 1, slow.horizon + 1, 96):
                worlds, view = slow.worlds(at), slow.view(at)
                for fact in facts_of(setting, dice, 1):
                    chain = random_chain(setting, dice, 2)
                    line = format_claim(chain, fact)
                    if not worlds:
                        self.refuse(lambda: desk.ask(line, at=at))
                        continue
                    last = worlds
                    for agent, hour in chain:
                        last = successors(setting, everything, last, agent, hour)
                    expected = all(slow_true(setting, world, fact) for world in last)
                    self.assertIs(desk.ask(line, at=at), expected)
                    self.assertIs(sure(setting, view, chain, fact), expected)
                    found.add((fact[0], expected))
        self.assertEqual(len(found), 14)


class ReasonsTest(QuestionsTest):
    def test_cost(self):
        self.assertEqual(self.desk.cost(0, 0, [0]), 0)
        self.assertIsNone(self.desk.cost(0, 0, [0, 1, 2, 3]))
        self.desk.report(0, 0, [0], weight=5)
        self.desk.report(1, 0, [0], weight=50)
        self.desk.report(0, 3, [0], inside=False, weight=2)
        self.assertEqual(self.desk.cost(0, 0, [0]), 5)
        self.assertEqual(self.desk.cost(0, 0, [1]), 0)
        self.assertEqual(self.desk.cost(1, 2, [0, 1]), 50)
        self.assertEqual(self.desk.cost(0, 3, [1, 2, 3]), 2)
        self.desk.withdraw(0)
        self.assertEqual(self.desk.cost(0, 0, [0]), 0)

    def test_grounds_and_trouble(self):
        self.assertIsNone(self.desk.grounds(0, 0, [0]))
        self.assertEqual(self.desk.grounds(0, 0, [0, 1, 2, 3]), [])
        self.assertIsNone(self.desk.trouble(0))
        self.desk.report(0, 0, [0])
        self.desk.report(1, 0, [3])
        self.desk.receive(0, 1, 2, [True, True])
        self.desk.report(0, 2, [3])
        self.desk.report(0, 0, [1, 0])
        self.assertEqual(self.desk.trouble(0), [0, 3])
        self.assertEqual(self.desk.grounds(0, 0, []), [0, 3])
        self.desk.withdraw(0)
        # Numbers of entries are returned, not their places among those that stand.
        self.assertIsNone(self.desk.trouble(0))
        self.assertEqual(self.desk.grounds(0, 0, [0, 1, 2]), [4])
        self.assertEqual(self.desk.grounds(0, 0, [1, 2, 3]), [3])
        self.assertEqual(self.desk.grounds(1, 3, [2, 3]), [1])
        self.desk.report(0, 1, [0])
        self.assertEqual(self.desk.trouble(0), [3, 5])
        self.assertIsNone(self.desk.trouble(1))

    def test_receipts_have_no_influence(self):
        self.desk.report(0, 0, [0], weight=5)
        before = (self.desk.cost(0, 0, [0]), self.desk.grounds(0, 0, [0]), self.desk.trouble(0))
        self.assertEqual(before, (5, [0], None))
        # No world fits any more, but these questions are not about worlds.
        self.desk.receive(0, 1, 2, [False, False])
        self.desk.receive(1, 0, 0, [True, True])
        self.refuse_all(self.desk, 2)
        self.assertEqual((self.desk.cost(0, 0, [0]), self.desk.grounds(0, 0, [0]), self.desk.trouble(0)), before)

    def test_a_caller_may_change_the_grounds(self):
        self.desk.report(0, 0, [0])
        self.desk.grounds(0, 0, [0]).clear()
        self.assertEqual(self.desk.grounds(0, 0, [0]), [0])

    def test_many_desks(self):
        kinds = set()
        for seed in range(CASES):
            desk, slow, dice = filled_desks(seed)
            numbers, reports = slow.reports()
            for ship in range(len(slow.ships)):
                what = (slow.chart, slow.ships[ship], slow.horizon, reports, ship)
                for _ in range(3):
                    hour = dice.randint(0, slow.horizon)
                    zone = [place for place in range(slow.chart.size) if dice.random() < 0.6]
                    strong, found = strength(*what, hour, zone), reason(*what, hour, zone)
                    self.assertEqual(desk.cost(ship, hour, zone), None if strong is None else strong[0])
                    grounds = None if found is None else [numbers[index] for index in found]
                    self.assertEqual(desk.grounds(ship, hour, zone), grounds)
                    kinds.add(None if grounds is None else (len(grounds) > 0, grounds == found))
                found = reason(*what, 0, [])
                self.assertEqual(desk.trouble(ship), None if found is None else [numbers[index] for index in found])
        self.assertGreaterEqual(len(kinds), 4)


class EqualOutlooksTest(QuestionsTest):
    def answers_of(self, desk, setting, dice):
        """What the desk answers to some questions of each kind."""
        found = []
        for at in (0, 1, setting.horizon + 1, 96):
            found.append(("view", desk.view_at(at)))
            for ship in range(len(setting.ships)):
                hour, zone = dice.randint(0, setting.horizon), [place for place in range(setting.chart.size)
                                                                if dice.random() < 0.5]
                other = (ship + 1) % len(setting.ships)
                found += [outcome(lambda: desk.corridor(ship, at=at)), outcome(lambda: desk.places(ship, at=at)),
                          outcome(lambda: desk.judge(ship, hour, zone, at=at)),
                          outcome(lambda: desk.settle(ship, hour, zone, at=at)),
                          outcome(lambda: desk.cost(ship, hour, zone))]
                if other != ship:
                    found.append(outcome(lambda: desk.encounter(ship, other, at=at)))
            for fact in facts_of(setting, dice, 1):
                line = format_claim(random_chain(setting, dice, 2), fact)
                found.append(outcome(lambda: desk.ask(line, at=at)))
        return found

    def test_desks_with_other_deeds_and_equal_outlooks(self):
        for seed in range(60):
            desk, slow, dice = filled_desks(seed)
            deeds = [deed for deed in slow.done if deed[0] != "withdraw"]
            gone = [deed[1] for deed in slow.done if deed[0] == "withdraw"]
            kept = [deed for number, deed in enumerate(deeds) if number not in gone]
            dice.shuffle(kept)
            other = Desk(slow.chart, slow.horizon, slow.ships, letters=slow.letters)
            extra = [other.report(0, 0, [0], weight=7), other.report(0, 0, [], weight=9)]
            for deed in kept:
                do_at(other, deed)
            for number in extra:
                other.withdraw(number)
            self.assertEqual(other.outlook(), desk.outlook())
            again = replay(slow.chart, slow.horizon, slow.ships, slow.letters, desk.journal())
            expected = self.answers_of(desk, slow.setting(), random.Random(seed))
            for same in (other, again):
                self.assertEqual(told(same.as_setting()), told(desk.as_setting()))
                self.assertEqual(self.answers_of(same, slow.setting(), random.Random(seed)), expected)

    def test_questions_change_nothing(self):
        for seed in range(30):
            desk, slow, dice = filled_desks(seed)
            first = self.answers_of(desk, slow.setting(), random.Random(seed))
            self.assertEqual(desk.standing(), slow.standing())
            self.assertEqual(desk.deeds(), slow.done)
            self.assertEqual(self.answers_of(desk, slow.setting(), random.Random(seed)), first)
            # A withdrawn entry has no effect any more.
            desk.report(0, 0, [])
            desk.withdraw(desk.standing()[-1][0])
            self.assertEqual(self.answers_of(desk, slow.setting(), random.Random(seed)), first)


class SlowDeskTest(unittest.TestCase):
    def test_the_slow_desk_has_the_same_corridors(self):
        slow = SlowDesk(line_chart(3), 1, [Ship(0)], [Letter(0, [0], "k0", [])])
        slow.do(("receive", 0, 0, 0, (True,)))
        slow.do(("report", 0, 1, (0, 1), True, 1))
        self.assertEqual(slow.corridor(0, 0), [[0], [0, 1]])


if __name__ == "__main__":
    unittest.main()
