"""Points 70 to 74, 79 and 81: the deeds of a watch desk, its entries, and the replay of its journal."""

import random
import unittest

from fogfleet.chart import Chart
from fogfleet.deeds import format_deeds, parse_deeds
from fogfleet.desk import Desk, replay
from fogfleet.disbelief import reason
from fogfleet.errors import (BadText, Contradiction, FleetError, InvalidReceipt, InvalidReport, InvalidSetting,
                             NothingToRedo, NothingToUndo, UnknownEntry)
from fogfleet.letters import Letter
from fogfleet.reports import Report
from fogfleet.ships import Ship
from tests.desks import (CHART, HORIZON, LETTERS, SHIPS, STILL, SlowDesk, do_at, example_desk, filled_desks,
                         random_desks, state_of, told_receipts, told_report)
from tests.helpers import HUGE, fitting, line_chart, random_zone

CASES = 120


class DeskTest(unittest.TestCase):
    def setUp(self):
        self.desk = self.example = example_desk()

    def tearDown(self):
        self.check_replay(self.example, CHART, HORIZON, SHIPS, LETTERS)

    def check_replay(self, desk, chart, horizon, ships, letters):
        """The journal of the desk makes a desk that is equal to it."""
        other = replay(chart, horizon, ships, letters, desk.journal())
        self.assertEqual(state_of(other), state_of(desk))

    def refuse(self, kind, call, **attributes):
        """The call raises the error and changes nothing."""
        before = state_of(self.desk)
        with self.assertRaises(kind) as caught:
            call()
        self.assertIs(type(caught.exception), kind)
        self.assertIsInstance(caught.exception, FleetError)
        self.assertEqual(vars(caught.exception), attributes)
        self.assertEqual(state_of(self.desk), before)


class NewDeskTest(DeskTest):
    def test_nothing_stands_at_first(self):
        self.assertEqual(state_of(self.desk), ([], [], [], "", []))
        self.assertEqual(state_of(Desk(CHART, 0, [STILL])), ([], [], [], "", []))

    def test_wrong_parts(self):
        late = [Letter(4, [], "k1", [])]
        far = [Letter(0, [4], "k1", [])]
        strange = [Letter(0, [], "k1", [(0, "s2", 0, 0)])]
        for part, horizon, ships, letters in (
                ("horizon", -1, SHIPS, LETTERS), ("horizon", 25, [], late), ("ships", 3, [], late),
                ("ships", 3, [STILL] * 5, late), ("letters", 3, SHIPS, late), ("letters", 3, SHIPS, far),
                ("letters", 3, SHIPS, strange), ("letters", 3, SHIPS, [Letter(0, [], "k1", [])] * 7)):
            with self.assertRaises(InvalidSetting) as caught:
                Desk(CHART, horizon, ships, letters=letters)
            self.assertEqual(caught.exception.part, part)
            with self.assertRaises(InvalidSetting) as caught:
                replay(CHART, horizon, ships, letters, "no deed")
            self.assertEqual(caught.exception.part, part)

    def test_desks_of_the_same_lists_share_nothing(self):
        ships, letters = list(SHIPS), list(LETTERS)
        first, second = [Desk(CHART, HORIZON, ships, letters=letters) for _ in range(2)]
        first.report(0, 0, [1])
        first.receive(1, 0, 0, [False, True])
        self.assertEqual(state_of(second), ([], [], [], "", []))
        ships.clear()
        letters.clear()
        self.assertEqual(second.receive(1, 0, 0, [False, True]), 0)
        self.assertEqual(second.report(1, 0, [2]), 1)
        self.assertEqual(first.standing()[0], (0, "report", 0, 0, (1,), True, 1))
        self.assertEqual((ships, letters), ([], []))


class ReportTest(DeskTest):
    def test_reports(self):
        self.assertEqual(self.desk.report(0, 3, [2, 0]), 0)
        self.assertEqual(self.desk.report(1, 0, (), inside=False), 1)
        self.assertEqual(self.desk.report(1, 2, (3, 1), weight=99, inside=True, firm=False), 2)
        self.assertEqual(self.desk.standing(), [
            (0, "report", 0, 3, (0, 2), True, 1), (1, "report", 1, 0, (), False, 1),
            (2, "report", 1, 2, (1, 3), True, 99)])

    def test_wrong_parts(self):
        self.desk.report(0, 0, [1])
        wrong = {"ship": [-1, 2, 3, 4, HUGE], "hour": [-1, 4, 24, 25, HUGE],
                 "zone": [[4], [11], [12], [-1], [1, 1], [0, 4]], "weight": [0, 100, -5, HUGE]}
        right = {"ship": 1, "hour": 3, "zone": [3, 0], "weight": 99}
        names = list(right)
        for at, name in enumerate(names):
            for value in wrong[name]:
                for other in names[at:]:
                    for more in wrong[other]:
                        parts = dict(right, **{other: more})
                        parts[name] = value
                        for firm in (False, True):
                            self.refuse(InvalidReport, lambda: self.desk.report(
                                parts["ship"], parts["hour"], parts["zone"], weight=parts["weight"], firm=firm),
                                part=name)
        self.assertEqual(self.desk.report(1, 3, [3, 0], weight=99), 1)

    def test_contradicting_reports_are_let(self):
        self.desk.report(0, 0, [1])
        self.assertEqual(self.desk.report(0, 0, [2]), 1)
        self.assertEqual(self.desk.report(0, 0, []), 2)
        self.assertEqual(self.desk.report(0, 0, [1], inside=False), 3)


class FirmTest(DeskTest):
    def firm(self, *parts, **more):
        return lambda: self.desk.report(*parts, firm=True, **more)

    def test_a_report_that_fits(self):
        self.assertEqual(self.firm(0, 0, [0])(), 0)
        self.assertEqual(self.firm(0, 3, [3])(), 1)
        self.assertEqual(self.firm(1, 3, [3], weight=7)(), 2)
        self.assertEqual(self.desk.standing()[2], (2, "report", 1, 3, (3,), True, 7))

    def test_reports_that_it_contradicts(self):
        self.desk.report(1, 0, [0])
        self.desk.report(0, 0, [0, 1])
        self.desk.report(0, 1, [3], inside=False)
        self.refuse(Contradiction, self.firm(0, 0, [2]), numbers=[1])
        self.refuse(Contradiction, self.firm(0, 1, [3]), numbers=[2])
        self.refuse(Contradiction, self.firm(0, 0, []), numbers=[])
        self.desk.report(0, 3, [3])
        self.desk.report(0, 2, [2])
        # Only both reports together contradict it.
        self.refuse(Contradiction, self.firm(0, 1, [0]), numbers=[4])
        self.desk.withdraw(4)
        self.refuse(Contradiction, self.firm(0, 1, [0]), numbers=[3])
        self.desk.report(0, 0, [0])
        self.refuse(Contradiction, self.firm(0, 2, [2, 3], inside=False), numbers=[3])
        self.assertEqual(self.firm(0, 2, [2])(), 6)

    def test_two_reports_that_contradict_it_only_together(self):
        self.desk.report(0, 0, [0])
        self.desk.report(0, 2, [0, 2])
        self.desk.report(0, 3, [0, 3])
        self.assertEqual(self.desk.report(0, 2, [0], inside=False), 3)
        self.refuse(Contradiction, self.firm(0, 3, [0]), numbers=[3, 1][::-1])
        self.desk.undo()
        self.assertEqual(self.firm(0, 3, [0])(), 3)

    def test_a_ship_without_any_driving(self):
        chart = Chart([0, 0], [(0, 1)])
        desk = Desk(chart, 2, [Ship(5, slow=1, fast=1), STILL])
        desk.report(0, 0, [0])
        with self.assertRaises(Contradiction) as caught:
            desk.report(0, 1, [0, 1], firm=True)
        self.assertEqual(caught.exception.numbers, [])
        self.assertIs(type(caught.exception.numbers), list)
        self.assertEqual(desk.report(1, 1, [0, 1], firm=True), 1)

    def test_standing_reports_that_contradict_each_other_already(self):
        self.desk.report(0, 0, [0])
        self.desk.report(0, 0, [1])
        self.desk.report(1, 0, [1])
        self.refuse(Contradiction, self.firm(0, 2, [0, 1, 2, 3]), numbers=[0, 1])
        self.assertEqual(self.firm(1, 2, [1])(), 3)

    def test_receipts_do_not_count(self):
        self.desk.receive(1, 0, 0, [True, False])
        self.assertEqual(self.firm(0, 0, [0])(), 1)
        self.assertEqual(self.firm(1, 0, [2])(), 2)

    def test_a_caller_may_change_the_numbers(self):
        self.desk.report(0, 0, [0])
        for _ in range(2):
            with self.assertRaises(Contradiction) as caught:
                self.desk.report(0, 0, [1], firm=True)
            self.assertEqual(caught.exception.numbers, [0])
            caught.exception.numbers.append(9)

    def test_many_desks(self):
        refused = 0
        for seed in range(CASES):
            desk, slow, world, dice = random_desks(seed)
            for _ in range(8):
                ship, hour = dice.randrange(len(slow.ships)), dice.randint(0, slow.horizon)
                zone, inside = random_zone(dice, slow.chart.size, 0.6), dice.random() < 0.7
                firm = dice.random() < 0.7
                numbers, reports = slow.reports()
                reports.append(Report(ship, hour, zone, inside=inside))
                corridor = [[place for place in range(slow.chart.size) if all(
                    (place in report.zone) == report.inside for report in reports
                    if (report.ship, report.hour) == (ship, now))] for now in range(slow.horizon + 1)]
                if firm and not fitting(slow.chart, slow.ships[ship], corridor):
                    found = reason(slow.chart, slow.ships[ship], slow.horizon, reports, ship, 0, [])
                    with self.assertRaises(Contradiction) as caught:
                        desk.report(ship, hour, zone, inside=inside, firm=True)
                    self.assertEqual(caught.exception.numbers, [numbers[at] for at in found if at < len(numbers)])
                    refused += 1
                else:
                    self.assertEqual(desk.report(ship, hour, zone, inside=inside, firm=firm), slow.next_number())
                    slow.do(("report", ship, hour, tuple(sorted(zone)), inside, 1))
                if slow.standing() and dice.random() < 0.3:
                    number = dice.choice(slow.standing())[0]
                    desk.withdraw(number)
                    slow.do(("withdraw", number))
                self.assertEqual(desk.standing(), slow.standing())
            self.check_replay(desk, slow.chart, slow.horizon, slow.ships, slow.letters)
        self.assertGreater(refused, 30)


class ReceiveTest(DeskTest):
    def receive(self, *parts):
        return lambda: self.desk.receive(*parts)

    def test_receipts(self):
        self.assertEqual(self.desk.receive(0, 1, 3, [True, False]), 0)
        self.assertEqual(self.desk.receive(0, 3, 2, (True, False)), 1)
        # A letter that the desk writes itself is entered in the same way.
        self.assertEqual(self.desk.receive(1, 0, 0, (False, False)), 2)
        self.assertEqual(self.desk.standing(), [
            (0, "receipt", 0, 1, 3, (True, False)), (1, "receipt", 0, 3, 2, (True, False)),
            (2, "receipt", 1, 0, 0, (False, False))])

    def test_wrong_letters_and_events(self):
        flags = [True, False]
        for letter in (-1, 3, 6, HUGE, -HUGE):
            self.refuse(InvalidReceipt, self.receive(letter, 0, 0, flags), part="letter")
            self.refuse(InvalidReceipt, self.receive(letter, -1, -1, []), part="letter")
        for letter, event in ((0, -1), (0, 4), (0, HUGE), (0, 0), (0, 2), (1, 1), (1, -1), (2, 0), (2, 1), (2, 2)):
            for hour, told in ((1, flags), (0, flags), (-1, [])):
                self.refuse(InvalidReceipt, self.receive(letter, event, hour, told), part="event")

    def test_an_event_that_a_standing_receipt_has(self):
        flags = (True, False)
        self.desk.receive(0, 1, 3, flags)
        for hour, told in ((3, flags), (2, flags), (99, []), (3, (False, False))):
            self.refuse(InvalidReceipt, self.receive(0, 1, hour, told), part="event")
        self.desk.withdraw(0)
        self.assertEqual(self.desk.receive(0, 1, 2, (False, True)), 1)
        self.refuse(InvalidReceipt, self.receive(0, 1, 3, flags), part="event")
        self.desk.undo()
        self.desk.undo()
        self.refuse(InvalidReceipt, self.receive(0, 1, 2, (False, True)), part="event")

    def test_hours(self):
        flags = (True, False)
        for letter, event, low, high in ((0, 1, 1, 3), (0, 3, 2, 4), (1, 0, 0, 0)):
            for hour in (low - 1, high + 1, -5, HUGE):
                self.refuse(InvalidReceipt, self.receive(letter, event, hour, flags), part="hour")
                self.refuse(InvalidReceipt, self.receive(letter, event, hour, []), part="hour")
            for hour in range(low, high + 1):
                self.desk.receive(letter, event, hour, flags)
                self.desk.undo()

    def test_hours_whatever_other_receipts_say(self):
        letters = [Letter(0, [], "k0", [(0, "k0", 0, 2), (1, "k0", 0, 2)])]
        desk = Desk(CHART, 3, [STILL], letters=letters)
        desk.receive(0, 1, 2, [False])
        # No run has both hours.
        self.assertEqual(desk.receive(0, 2, 0, [False]), 1)
        self.assertEqual(desk.receive(0, 0, 0, [False]), 2)

    def test_flags(self):
        for flags in ([], [True], [True, False, True], (), (False,), (True,) * 4):
            self.refuse(InvalidReceipt, self.receive(0, 1, 3, flags), part="flags")
        self.desk.receive(0, 1, 3, [True, False])
        for flags in ([False, False], (True, True), [], (True,), (True, False, False)):
            self.refuse(InvalidReceipt, self.receive(0, 3, 3, flags), part="flags")
        # Receipts of other letters do not count.
        self.assertEqual(self.desk.receive(1, 0, 0, [False, True]), 1)
        self.desk.withdraw(0)
        self.assertEqual(self.desk.receive(0, 3, 3, [False, False]), 2)
        self.refuse(InvalidReceipt, self.receive(0, 1, 3, [True, False]), part="flags")

    def test_flags_are_copied(self):
        flags = [True, False]
        self.desk.receive(0, 1, 3, flags)
        flags[0] = False
        self.assertEqual(self.desk.standing()[0][5], (True, False))
        self.assertEqual(self.desk.receive(0, 3, 3, [True, False]), 1)


class WithdrawTest(DeskTest):
    def test_withdraw(self):
        for number in (0, 1, -1, HUGE, -HUGE):
            self.refuse(UnknownEntry, lambda: self.desk.withdraw(number), number=number)
        self.desk.report(0, 0, [1])
        self.desk.receive(1, 0, 0, [False, False])
        self.desk.report(1, 0, [1])
        for number in (3, -1, -3, HUGE):
            self.refuse(UnknownEntry, lambda: self.desk.withdraw(number), number=number)
        self.assertIsNone(self.desk.withdraw(1))
        self.refuse(UnknownEntry, lambda: self.desk.withdraw(1), number=1)
        # The numbers of other entries stay, and a new entry gets a new number.
        self.assertEqual([entry[0] for entry in self.desk.standing()], [0, 2])
        self.assertEqual(self.desk.report(1, 0, [1]), 3)
        self.desk.withdraw(3)
        self.assertEqual(self.desk.report(1, 0, [1]), 4)

    def test_going_through_a_desk_that_changes(self):
        for place in range(4):
            self.desk.report(0, 0, [place])
        seen = []
        for entry in self.desk:
            seen.append(entry)
            self.desk.withdraw(entry[0])
        self.assertEqual([entry[0] for entry in seen], [0, 1, 2, 3])
        self.assertEqual(self.desk.standing(), [])


class UndoTest(DeskTest):
    def test_an_empty_desk(self):
        self.refuse(NothingToUndo, self.desk.undo)
        self.refuse(NothingToRedo, self.desk.redo)

    def test_numbers_are_free_again(self):
        self.assertEqual(self.desk.report(0, 0, [1]), 0)
        self.assertEqual(self.desk.report(0, 1, [1]), 1)
        self.assertIsNone(self.desk.undo())
        self.refuse(UnknownEntry, lambda: self.desk.withdraw(1), number=1)
        self.assertEqual([entry[0] for entry in self.desk.standing()], [0])
        self.assertIsNone(self.desk.redo())
        self.assertEqual(self.desk.standing()[1], (1, "report", 0, 1, (1,), True, 1))
        self.refuse(NothingToRedo, self.desk.redo)
        self.desk.undo()
        self.assertEqual(self.desk.receive(1, 0, 0, [False, False]), 1)
        self.refuse(NothingToRedo, self.desk.redo)
        self.desk.undo()
        self.desk.undo()
        self.refuse(NothingToUndo, self.desk.undo)
        self.desk.redo()
        self.desk.redo()
        self.assertEqual([entry[:2] for entry in self.desk.standing()], [(0, "report"), (1, "receipt")])

    def test_undo_of_a_withdrawal(self):
        self.desk.report(0, 0, [1])
        self.desk.report(0, 1, [1])
        self.desk.withdraw(0)
        self.desk.undo()
        self.assertEqual([entry[0] for entry in self.desk.standing()], [0, 1])
        self.desk.redo()
        self.assertEqual([entry[0] for entry in self.desk.standing()], [1])
        self.desk.undo()
        self.desk.undo()
        self.desk.undo()
        self.assertEqual(state_of(self.desk), ([], [], [], "", []))
        for _ in range(3):
            self.desk.redo()
        self.assertEqual(self.desk.deeds()[2], ("withdraw", 0))

    def test_a_refused_call_leaves_redo_as_it_was(self):
        self.desk.report(0, 0, [1])
        self.desk.report(0, 1, [1])
        self.desk.undo()
        self.refuse(InvalidReport, lambda: self.desk.report(9, 0, [1]), part="ship")
        self.refuse(InvalidReceipt, lambda: self.desk.receive(9, 0, 0, []), part="letter")
        self.refuse(UnknownEntry, lambda: self.desk.withdraw(1), number=1)
        self.refuse(Contradiction, lambda: self.desk.report(0, 0, [2], firm=True), numbers=[0])
        self.desk.redo()
        self.assertEqual(len(self.desk.standing()), 2)
        self.desk.undo()
        self.desk.withdraw(0)
        self.refuse(NothingToRedo, self.desk.redo)

    def test_a_firm_report_is_done_again(self):
        self.desk.report(0, 0, [1], firm=True)
        self.desk.undo()
        self.desk.redo()
        self.assertEqual(self.desk.standing(), [(0, "report", 0, 0, (1,), True, 1)])

    def test_long_rows_of_deeds(self):
        kinds = set()
        for seed in range(CASES):
            desk, slow, world, dice = random_desks(seed)
            self.desk = desk
            for _ in range(40):
                kinds.add(self.one_call(slow, world, dice))
                self.assertEqual(desk.standing(), slow.standing())
                self.assertEqual(list(desk), slow.standing())
                self.assertEqual(desk.outlook(), slow.outlook())
                self.assertEqual(desk.deeds(), slow.done)
                self.assertEqual(desk.journal(), format_deeds(slow.done))
            self.check_replay(desk, slow.chart, slow.horizon, slow.ships, slow.letters)
        self.assertEqual(len(kinds), 10)

    def one_call(self, slow, world, dice):
        """Call the desk once, with right or wrong values; return what happened."""
        word = dice.choice(["report", "report", "receive", "receive", "withdraw", "undo", "redo", "redo"])
        if word == "report":
            ship, hour, zone, inside = (dice.randint(-1, len(slow.ships)), dice.randint(-1, slow.horizon + 1),
                                        random_zone(dice, slow.chart.size + 1), dice.random() < 0.5)
            weight = dice.choice([0, 1, 99, 100])
            part = slow.wrong_report(ship, hour, zone, weight)
            call = lambda: self.desk.report(ship, hour, zone, weight=weight, inside=inside)
            return self.enter(slow, call, InvalidReport, part, (word, ship, hour, tuple(sorted(zone)), inside, weight))
        if word == "receive":
            parts = dice.choice(told_receipts(slow, world) or [(0, -1, 0, 0, ())])[1:]
            if dice.random() < 0.5:
                parts = (dice.randint(-1, len(slow.letters)), dice.randint(-1, 3), dice.randint(0, 6),
                         [dice.random() < 0.5 for _ in slow.ships])
            part = slow.wrong_receipt(*parts)
            return self.enter(slow, lambda: self.desk.receive(*parts), InvalidReceipt, part,
                              (word,) + parts[:3] + (tuple(parts[3]),))
        if word == "withdraw":
            number = dice.randint(-1, slow.next_number())
            if number in [entry[0] for entry in slow.standing()]:
                self.assertIsNone(self.desk.withdraw(number))
                slow.do((word, number))
                return word
            self.refuse(UnknownEntry, lambda: self.desk.withdraw(number), number=number)
            return "no " + word
        if word == "undo":
            return self.go(slow.done, self.desk.undo, slow.undo, NothingToUndo)
        return self.go(slow.undone, self.desk.redo, slow.redo, NothingToRedo)

    def enter(self, slow, call, kind, part, deed):
        if part is not None:
            self.refuse(kind, call, part=part)
            return "no " + deed[0]
        self.assertEqual(call(), slow.next_number())
        slow.do(deed)
        return deed[0]

    def go(self, deeds, call, slow_call, kind):
        if not deeds:
            self.refuse(kind, call)
            return kind.__name__
        self.assertIsNone(call())
        slow_call()
        return "moved by " + kind.__name__


class StandingTest(DeskTest):
    def test_order(self):
        self.desk.report(1, 2, [3, 0], weight=5)
        self.desk.receive(1, 0, 0, [False, True])
        self.desk.report(0, 3, [], inside=False)
        self.desk.report(0, 3, [])
        self.desk.receive(0, 3, 2, (True, True))
        self.desk.report(0, 3, [], inside=False, weight=2)
        self.desk.report(1, 2, [3, 0], weight=5)
        standing = [
            (0, "report", 1, 2, (0, 3), True, 5), (1, "receipt", 1, 0, 0, (False, True)),
            (2, "report", 0, 3, (), False, 1), (3, "report", 0, 3, (), True, 1),
            (4, "receipt", 0, 3, 2, (True, True)), (5, "report", 0, 3, (), False, 2),
            (6, "report", 1, 2, (0, 3), True, 5)]
        self.assertEqual(self.desk.standing(), standing)
        self.assertEqual(list(self.desk), standing)
        self.assertEqual([entry for entry in self.desk], standing)
        self.assertEqual(self.desk.outlook(), [
            ("receipt", 0, 3, 2, (True, True)), ("receipt", 1, 0, 0, (False, True)),
            ("report", 0, 3, (), False, 1), ("report", 0, 3, (), False, 2), ("report", 0, 3, (), True, 1),
            ("report", 1, 2, (0, 3), True, 5), ("report", 1, 2, (0, 3), True, 5)])
        self.assertEqual(self.desk.outlook(), sorted(entry[1:] for entry in standing))

    def test_iteration_twice_and_nested(self):
        self.desk.report(0, 0, [1])
        self.desk.report(0, 1, [1])
        self.assertEqual([(a[0], b[0]) for a in self.desk for b in self.desk], [(0, 0), (0, 1), (1, 0), (1, 1)])
        self.assertIn((0, "report", 0, 0, (1,), True, 1), self.desk)

    def test_a_caller_may_change_what_it_passed_and_got(self):
        zone, flags = [3, 1], [True, False]
        self.desk.report(0, 0, zone)
        self.desk.receive(0, 1, 3, flags)
        self.assertEqual((zone, flags), ([3, 1], [True, False]))
        before = state_of(self.desk)
        zone.clear()
        flags.clear()
        for found in (self.desk.standing(), self.desk.outlook(), self.desk.deeds()):
            found.reverse()
            found[0] = None
        self.assertEqual(state_of(self.desk), before)


class DeedsTest(DeskTest):
    def test_each_kind_of_deed(self):
        self.desk.report(0, 0, [3, 1], weight=5)
        self.desk.report(1, 2, [], inside=False)
        self.desk.receive(0, 1, 3, [True, False])
        self.desk.withdraw(1)
        deeds = [("report", 0, 0, (1, 3), True, 5), ("report", 1, 2, (), False, 1),
                 ("receive", 0, 1, 3, (True, False)), ("withdraw", 1)]
        lines = ["report 0 at 0 in 1,3 weight 5", "report 1 at 2 out - weight 1", "receive 0 event 1 at 3 yn",
                 "withdraw 1"]
        for many in range(4, -1, -1):
            self.assertEqual(self.desk.deeds(), deeds[:many])
            self.assertEqual(self.desk.journal(), "\n".join(lines[:many]))
            if many:
                self.desk.undo()
        for many in range(1, 5):
            self.desk.redo()
            self.assertEqual(self.desk.deeds(), deeds[:many])
            self.assertEqual(self.desk.journal(), "\n".join(lines[:many]))

    def test_a_firm_report_is_a_deed_like_others(self):
        self.desk.report(0, 0, [1], firm=True)
        self.assertEqual(self.desk.deeds(), [("report", 0, 0, (1,), True, 1)])

    def test_kinds_of_values(self):
        self.desk.report(0, 0, [1])
        self.desk.receive(0, 1, 3, [True, False])
        self.assertEqual([type(part) for part in self.desk.deeds()[0]], [str, int, int, tuple, bool, int])
        self.assertEqual([type(part) for part in self.desk.deeds()[1]], [str, int, int, int, tuple])
        self.assertEqual([type(part) for part in self.desk.standing()[0]], [int, str, int, int, tuple, bool, int])
        self.assertIs(type(self.desk.standing()), list)
        self.assertIs(type(self.desk.outlook()), list)
        self.assertIs(type(self.desk.deeds()), list)


class ReplayTest(DeskTest):
    def replayed(self, text):
        return replay(CHART, HORIZON, SHIPS, LETTERS, text)

    def refuse_line(self, line, text):
        with self.assertRaises(BadText) as caught:
            self.replayed(text)
        self.assertIs(type(caught.exception), BadText)
        self.assertEqual(caught.exception.line, line, text)

    def test_a_journal(self):
        self.desk.report(0, 0, [3, 1], weight=5)
        self.desk.receive(0, 1, 3, [True, False])
        self.desk.withdraw(0)
        self.desk.report(0, 0, [1], inside=False)
        other = self.replayed(self.desk.journal())
        self.assertIs(type(other), Desk)
        self.assertEqual(state_of(other), state_of(self.desk))
        self.assertEqual(other.report(1, 1, [0]), 3)
        self.assertEqual(len(self.desk.standing()), 2)
        other.undo()
        other.undo()
        self.assertEqual(other.deeds(), self.desk.deeds()[:-1])

    def test_the_empty_text(self):
        self.assertEqual(state_of(self.replayed("")), ([], [], [], "", []))
        self.refuse_line(1, "\n")

    def test_a_firm_report_is_entered_without_firm(self):
        self.desk.report(0, 0, [0], firm=True)
        self.desk.report(0, 0, [1])
        self.desk.withdraw(1)
        # With this report first, the other one would be refused as a firm one.
        text = "\n".join(self.desk.journal().split("\n")[1::-1])
        self.assertEqual(len(self.replayed(text).standing()), 2)

    def test_lines_that_are_no_deeds_or_are_refused(self):
        right = ["report 0 at 0 in 1,3 weight 5", "receive 0 event 1 at 3 yn", "withdraw 0"]
        self.assertEqual(len(self.replayed("\n".join(right)).deeds()), 3)
        for wrong in ("", "report 2 at 0 in 1 weight 5", "report 0 at 4 in 1 weight 5", "report 0 at 0 in 4 weight 5",
                      "report 0 at 0 in 1 weight 0", "report 0 at 0 in 1 weight 100", "receive 3 event 0 at 0 yn",
                      "receive 0 event 0 at 1 yn", "receive 0 event 1 at 3 yn", "receive 0 event 3 at 9 yn",
                      "receive 0 event 3 at 3 ynn", "receive 0 event 3 at 3 yy", "receive 0 event 3 at 3 y",
                      "withdraw 0", "withdraw 2", "withdraw 999", "withdraw 1000", "Withdraw 1", "nothing",
                      "report 0 at 0 in 1"):
            self.refuse_line(4, "\n".join(right + [wrong]))
            self.refuse_line(4, "\n".join(right + [wrong, "withdraw 1", ""]))
            self.refuse_line(4, "\n".join(right + [wrong, wrong]))
        self.refuse_line(1, "withdraw 0\nno deed")
        self.refuse_line(1, "no deed\nwithdraw 0")
        self.refuse_line(2, "report 0 at 0 in 1,3 weight 5\nwithdraw 1\nno deed")

    def test_withdrawals_that_make_a_deed_right(self):
        text = "receive 0 event 1 at 3 yn\nwithdraw 0\nreceive 0 event 1 at 2 ny\nwithdraw 1"
        self.assertEqual(self.replayed(text).standing(), [])
        self.refuse_line(2, "receive 0 event 1 at 3 yn\nreceive 0 event 1 at 2 ny")

    def test_many_desks(self):
        for seed in range(CASES):
            desk, slow, dice = filled_desks(seed)
            for _ in range(dice.choice([0, 0, 2])):
                if slow.done:
                    desk.undo()
                    slow.undo()
            other = replay(slow.chart, slow.horizon, list(slow.ships), list(slow.letters), desk.journal())
            self.assertEqual(state_of(other), state_of(desk))
            self.assertEqual(parse_deeds(desk.journal()), desk.deeds())
            # What was taken back at the old desk cannot be done again at the new one.
            self.assertRaises(NothingToRedo, other.redo)

    def test_deeds_in_another_order(self):
        for seed in range(20):
            desk, slow, world, dice = random_desks(seed)
            deeds = told_receipts(slow, world) + [told_report(slow, world, dice) for _ in range(4)]
            outlooks = []
            for _ in range(3):
                dice.shuffle(deeds)
                other = SlowDesk(slow.chart, slow.horizon, slow.ships, slow.letters)
                again = Desk(slow.chart, slow.horizon, slow.ships, letters=slow.letters)
                for deed in deeds:
                    do_at(again, deed)
                    other.do(deed)
                self.assertEqual(again.outlook(), other.outlook())
                outlooks.append(again.outlook())
            self.assertEqual(outlooks[1:], outlooks[:-1])


class LongDeskTest(unittest.TestCase):
    def test_a_hundred_deeds(self):
        desk = Desk(line_chart(12), 24, [STILL] * 4)
        dice = random.Random(5)
        for number in range(70):
            self.assertEqual(desk.report(number % 4, number % 25, [dice.randrange(12)]), number)
            if number >= 40:
                desk.withdraw(number - 40)
        self.assertEqual(len(desk.deeds()), 100)
        self.assertEqual([entry[0] for entry in desk.standing()], list(range(30, 70)))
        before = state_of(desk)
        for _ in range(100):
            desk.undo()
        self.assertEqual(desk.standing(), [])
        self.assertRaises(NothingToUndo, desk.undo)
        for _ in range(100):
            desk.redo()
        self.assertEqual(state_of(desk), before)
        self.assertEqual(state_of(replay(line_chart(12), 24, [STILL] * 4, [], desk.journal())), before)


if __name__ == "__main__":
    unittest.main()
