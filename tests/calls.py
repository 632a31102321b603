"""Calls of the functions of the interface, for the tests of what all of them promise."""

from fogfleet.bounds import (binding, earliest_alike, earliest_fit, latest_alike, latest_fit,
                             most_between)
from fogfleet.chains import (earliest_chain, first_hour, knows_by, knows_from, knows_held,
                             latest_chain)
from fogfleet.chart import Chart
from fogfleet.claims import format_claim, parse_claim
from fogfleet.common import common_run, commonly_by
from fogfleet.deeds import format_deeds, parse_deeds
from fogfleet.desk import Desk, replay
from fogfleet.disbelief import reason, strength
from fogfleet.drivings import fits, fuel_along
from fogfleet.errors import (BadClaim, BadText, Contradiction, DoesNotFit, InvalidLetter, InvalidLight, InvalidOrder,
                             InvalidReceipt, InvalidReport, InvalidSetting, InvalidStay, NoDriving, NoRun, NoSuchNumber,
                             NotInPlay, NothingToRedo, NothingToUndo, NoWay, NoWorld, UnknownEntry)
from fogfleet.gates import Gate, tide_gate
from fogfleet.giveway import GiveWay, who_gives_way
from fogfleet.harbour import berths, lying_spans, present
from fogfleet.knowing import count_ends, counter, ends, first_knowing, knows, sure
from fogfleet.leastletters import least_letters, parting_world
from fogfleet.legs import leg_driving, leg_hours, leg_speeds, voyage
from fogfleet.letters import Letter
from fogfleet.lights import Light, flashes, sight_zone
from fogfleet.meeting import meeting_hours, meeting_verdict, meetings
from fogfleet.numbering import count_drivings, driving_at, number_of
from fogfleet.orders import breaking_legs, broken, order_holds
from fogfleet.questions import settling, verdict
from fogfleet.reach import first_driving, next_places, reach_hours
from fogfleet.reports import Report, corridor_of, unmet
from fogfleet.runs import alike_runs, earliest_run, held, is_run, latest_run, seen
from fogfleet.schedules import least_schedule
from fogfleet.setting import Setting
from fogfleet.shared import common_counter, commonly
from fogfleet.ships import Ship
from fogfleet.sightings import flash_reports, flash_zone, lights_seen
from fogfleet.tables import need_table, possible_places, rich_table
from fogfleet.telling import agreeing_shifts, certain_light, readings, telling_length
from fogfleet.worlds import alike, answers, fits_view, is_true, is_world, view_of

CHART = Chart([5, 3, 8, 5], [(1, 0), (1, 2), (2, 3)], tide=(0, 2), harbours=(2, 0))
SHIP = Ship(4, fast=2, tank=3, fuel=2)
CORRIDOR = [[3, 0], [0, 1, 3], (3, 1, 0, 2), [2, 1]]
DRIVING = [0, 0, 1, 1]
LIGHT = Light(1, "*..", reach=2)
OTHER = Light(2, "*.")
REPORTS = [Report(0, 1, [3, 0]), Report(1, 0, []), Report(0, 1, [3, 2, 1], weight=5), Report(0, 3, [1]),
           Report(0, 2, [1], inside=False)]
LETTER = Letter(2, [1, 0], "k1", [(0, "s0", 1, 3), (1, "k0", 0, 2)])
POST = [LETTER, Letter(0, [], "k0", [(0, "s0", 0, 6)]), LETTER]
RUN = [[2, 4, 5], [0, 4], [2, 4, 5]]
CHAIN = [("k0", 5), ("s0", 4), ("k0", 5)]
SETTING = Setting(CHART, 3, [SHIP, SHIP], reports=[Report(0, 0, [3, 0])], letters=POST)
WORLD = ([[0, 0, 1, 1], [2, 2, 2, 2]], RUN)
VIEW = ("k0", 4, ((1, 0, 0),), ((1, (False, False)),), None)
OWN_VIEW = ("s0", 1, (), (), (0, 0))
COUPLE = [CHART, SHIP, CORRIDOR, SHIP, [[2, 0], (2, 1, 0), [3, 2, 0], [2]]]
TWINS = [CHART, SHIP, CORRIDOR, SHIP, CORRIDOR]
SAILOR = Ship(3, slow=1, fast=2)
SAILINGS = [(1, 2), (0, 3), (2, 2)]
GATE = Gate([9, 3, 4, 5, 6])
ORDERS = [("after", 0, 1, 1), ("with", 1, 2, 3), ("bar", 2, GATE), ("gate", 1, GATE), ("by", 0, 9)]
JOURNAL = "report 1 at 0 in 1,3 weight 5\nreceive 1 event 0 at 0 yn\nwithdraw 0"


def filled_desk():
    """A desk with entries of each kind, and a deed that was taken back."""
    desk = replay(CHART, 3, [SHIP, SHIP], POST, JOURNAL)
    desk.report(0, 0, [3])
    desk.report(0, 1, [])
    desk.undo()
    return desk


def asked_of_desk(method, *parts, **more):
    """Call a method of a new desk with these entries."""
    return getattr(filled_desk(), method)(*parts, **more)


def refused_by_desk(method, *parts):
    """Call a method of a new desk that has nothing to redo, and no entry but a firm report."""
    desk = Desk(CHART, 3, [SHIP, SHIP], letters=POST)
    if method != "undo":
        desk.report(0, 0, [3], firm=True)
    more = {"firm": True} if method == "report" else {}
    return getattr(desk, method)(*parts, **more)

# Each call with what is passed to it, and the kind of its answer.
CALLS = [
    (fuel_along, [CHART, SHIP, DRIVING], list),
    (fits, [CHART, SHIP, CORRIDOR, DRIVING], bool),
    (rich_table, [CHART, SHIP, CORRIDOR], list),
    (need_table, [CHART, SHIP, CORRIDOR], list),
    (possible_places, [CHART, SHIP, CORRIDOR], list),
    (next_places, [CHART, SHIP, CORRIDOR, [0, 0]], list),
    (next_places, [CHART, SHIP, CORRIDOR, []], list),
    (first_driving, [CHART, SHIP, CORRIDOR], list),
    (reach_hours, [CHART, SHIP, CORRIDOR, [1, 0]], tuple),
    (count_drivings, [CHART, SHIP, CORRIDOR], int),
    (driving_at, [CHART, SHIP, CORRIDOR, 1], list),
    (number_of, [CHART, SHIP, CORRIDOR, DRIVING], int),
    (flashes, [LIGHT, 5, 7], str),
    (sight_zone, [CHART, LIGHT], list),
    (agreeing_shifts, [LIGHT, OTHER, 3], tuple),
    (telling_length, [LIGHT, OTHER], int),
    (readings, [[LIGHT, OTHER, LIGHT], "*."], list),
    (certain_light, [[LIGHT, OTHER], "*.*"], int),
    (lights_seen, [[LIGHT, OTHER, LIGHT], 0, "*."], list),
    (flash_zone, [CHART, [LIGHT, OTHER, LIGHT], 0, "*."], list),
    (flash_reports, [CHART, [LIGHT, OTHER], 0, 0, "*.", 7], list),
    (Report, [1, 2, [3, 1]], Report),
    (corridor_of, [CHART, 4, REPORTS, 0], list),
    (unmet, [REPORTS, 0, DRIVING], list),
    (verdict, [CHART, SHIP, CORRIDOR, 2, [2, 1]], tuple),
    (verdict, [CHART, SHIP, CORRIDOR, 2, [3, 2, 1, 0]], tuple),
    (settling, [CHART, SHIP, CORRIDOR, 3, [2, 0], 1], tuple),
    (strength, [CHART, SHIP, 3, REPORTS, 0, 1, [2, 1]], tuple),
    (reason, [CHART, SHIP, 3, REPORTS, 0, 1, [2, 1]], list),
    (Letter, [2, [3, 1], "k1", [(0, "s0", 1, 3)]], Letter),
    (is_run, [POST, RUN], bool),
    (earliest_run, [POST], list),
    (latest_run, [POST], list),
    (seen, [POST, RUN, "k0", 5], list),
    (held, [POST, RUN, "k0", 5], list),
    (alike_runs, [POST, RUN, [[2, 3, 4], [0, 4], [2, 4, 5]], "k0", 4], bool),
    (most_between, [LETTER, 2, 1], int),
    (latest_alike, [POST, RUN, "k0", 5], list),
    (earliest_alike, [POST, RUN, "k0", 5], list),
    (latest_fit, [POST, "k0", 4, [(1, 0, 0)]], list),
    (earliest_fit, [POST, "k0", 4, [(1, 0, 0)]], list),
    (binding, [POST, RUN, "k0", 5, 2, 1], tuple),
    (latest_chain, [POST, RUN, CHAIN], list),
    (earliest_chain, [POST, RUN, CHAIN], list),
    (knows_by, [POST, RUN, CHAIN, 0, 1, 5], bool),
    (knows_from, [POST, RUN, CHAIN, 0, 1, 5], bool),
    (knows_held, [POST, RUN, CHAIN, "s0", 5, 0], bool),
    (first_hour, [POST, RUN, ["s0", "s0"], 0, 1, 4], int),
    (common_run, [POST, RUN, ["k0", "s0"], 5], list),
    (common_run, [POST, RUN, [], 5], list),
    (commonly_by, [POST, RUN, ["k0", "s0"], 5, 0, 1, 5], bool),
    (Setting, [CHART, 3, [SHIP, SHIP]], Setting),
    (is_world, [SETTING, WORLD], bool),
    (answers, [SETTING, WORLD[0]], list),
    (view_of, [SETTING, WORLD, "s0", 2], tuple),
    (alike, [SETTING, WORLD, WORLD, "s0", 2], bool),
    (fits_view, [SETTING, WORLD, VIEW], bool),
    (is_true, [SETTING, WORLD, ("in", 0, 2, (1,))], bool),
    (sure, [SETTING, VIEW, CHAIN, ("in", 0, 2, (1,))], bool),
    (counter, [SETTING, VIEW, CHAIN, ("in", 0, 2, (1,))], list),
    (counter, [SETTING, VIEW, [], ("together", 0, 1, 2)], list),
    (counter, [SETTING, OWN_VIEW, CHAIN, ("apart", 0, 1)], list),
    (counter, [SETTING, OWN_VIEW, CHAIN, ("by", 0, 1, 4)], list),
    (knows, [SETTING, WORLD, CHAIN, ("in", 0, 2, (1,))], bool),
    (ends, [SETTING, VIEW, CHAIN, 1], list),
    (ends, [SETTING, OWN_VIEW, [("s0", 0)], 0], list),
    (count_ends, [SETTING, VIEW, CHAIN, 1], int),
    (first_knowing, [SETTING, WORLD, ["s0"], ("in", 0, 2, (1,))], int),
    (commonly, [SETTING, WORLD, ["k0", "s0"], 4, ("in", 0, 2, (1,))], bool),
    (common_counter, [SETTING, WORLD, ["k0", "s0"], 4, ("in", 0, 2, (1,))], tuple),
    (common_counter, [SETTING, WORLD, ["k0", "s0", "k0"], 4, ("by", 0, 1, 3)], tuple),
    (common_counter, [SETTING, WORLD, ["k7", "s0"], 3, ("apart", 0, 1)], tuple),
    (common_counter, [SETTING, WORLD, [], 4, ("in", 0, 2, (2, 3))], tuple),
    (least_letters, [SETTING, WORLD, "k7", 2, ("in", 0, 2, (0, 1))], list),
    (parting_world, [SETTING, WORLD, "k7", 2, [2, 0], ("in", 0, 2, (1,))], tuple),
    (format_claim, [CHAIN, ("in", 0, 2, (1, 3))], str),
    (parse_claim, ["k1@3 knows s0@5 knows ship 1 in 2,3 at 4"], tuple),
    (meetings, COUPLE, list),
    (meetings, TWINS, list),
    (meeting_verdict, COUPLE, tuple),
    (meeting_verdict, TWINS, tuple),
    (meeting_hours, COUPLE, tuple),
    (GiveWay, COUPLE, GiveWay),
    (who_gives_way, COUPLE, tuple),
    (leg_hours, [5, 1, 2], tuple),
    (leg_speeds, [5, 1, 2, 4], list),
    (leg_driving, [[0, 1, 2, 1], [1, 1, 2]], list),
    (voyage, [CHART, SAILOR, [0, 3, 3]], list),
    (Gate, [[9, 3, 4]], Gate),
    (tide_gate, [CHART, 1, 4, 9], Gate),
    (order_holds, [ORDERS[2], [0, 1, 2], [1, 2, 2]], bool),
    (broken, [ORDERS, [0, 1, 2], [1, 2, 2]], list),
    (breaking_legs, [SAILINGS, ORDERS, [0, 5, 2]], type(None)),
    (breaking_legs, [SAILINGS, ORDERS, [0, 2, 2]], tuple),
    (least_schedule, [SAILINGS, ORDERS], tuple),
    (least_schedule, [SAILINGS, ORDERS, 2], tuple),
    (lying_spans, [SAILINGS, [0, 5, 2], [(0, 1), (2, 1)]], list),
    (present, [[0, 5, 2], [1, 2, 2], [(0, 1), (2, 1)], 4], list),
    (berths, [[(3, 6), (0, 3), (4, 9)]], tuple),
    (format_deeds, [[("withdraw", 3), ("receive", 2, 1, 9, (True, False)), ("report", 1, 4, (), False, 1)]], str),
    (parse_deeds, [JOURNAL], list),
    (Desk, [CHART, 3, [SHIP, SHIP]], Desk),
    (replay, [CHART, 3, [SHIP, SHIP], POST, JOURNAL], Desk),
    (asked_of_desk, ["standing"], list),
    (asked_of_desk, ["outlook"], list),
    (asked_of_desk, ["as_setting"], Setting),
    (asked_of_desk, ["view_at", 5], tuple),
    (asked_of_desk, ["cost", 0, 0, [3]], int),
    (asked_of_desk, ["grounds", 0, 0, [3]], list),
    (asked_of_desk, ["deeds"], list),
    (asked_of_desk, ["journal"], str),
    (asked_of_desk, ["report", 0, 0, [3, 1]], int),
    (asked_of_desk, ["receive", 0, 2, 5, [True, False]], int),
    (asked_of_desk, ["withdraw", 1], type(None)),
    (asked_of_desk, ["undo"], type(None)),
    (asked_of_desk, ["redo"], type(None)),
]

# Each call that is refused, with its error.
REFUSALS = [
    (NoDriving, reach_hours, [CHART, SHIP, [[3], [0]], [1]]),
    (NoSuchNumber, driving_at, [CHART, SHIP, CORRIDOR, 10 ** 6]),
    (DoesNotFit, number_of, [CHART, SHIP, CORRIDOR, [0, 0, 1]]),
    (InvalidLight, Light, [12, "*"]),
    (InvalidReport, Report, [0, 0, [2, 1, 2]]),
    (InvalidReport, flash_reports, [CHART, [LIGHT], 4, 0, "*"]),
    (NoDriving, verdict, [CHART, SHIP, [[3], [0]], 1, [1]]),
    (NoDriving, settling, [CHART, SHIP, [[3], [0]], 1, [1], 7]),
    (InvalidLetter, Letter, [0, [2, 1], "k0", [(0, "s0", 0, 0), (2, "s0", 0, 0)]]),
    (NoRun, latest_fit, [POST, "k0", 4, [(0, 2, 4)]]),
    (NoRun, earliest_fit, [POST, "k0", 4, [(1, 0, 0), (7, 0, 3)]]),
    (InvalidSetting, Setting, [CHART, 3, []]),
    (NoWorld, sure, [SETTING, OWN_VIEW[:4] + (None,), CHAIN, ("in", 0, 2, (1,))]),
    (NoWorld, counter, [SETTING, OWN_VIEW[:4] + (None,), CHAIN, ("in", 0, 2, (1,))]),
    (NoWorld, ends, [SETTING, VIEW[:2] + ((), ()) + VIEW[4:], CHAIN, 1]),
    (NoWorld, count_ends, [SETTING, VIEW[:3] + ((), None), CHAIN, 1]),
    (BadClaim, parse_claim, ["k1@3 knows"]),
    (NoDriving, meetings, [CHART, SHIP, CORRIDOR, SHIP, [[3], [0], [0], [0]]]),
    (NoDriving, meeting_verdict, [CHART, SHIP, [[3], [0], [0], [0]], SHIP, CORRIDOR]),
    (NoDriving, meeting_hours, [CHART, SHIP, [[], [0], [0], [0]], SHIP, CORRIDOR]),
    (NoDriving, GiveWay, [CHART, SHIP, CORRIDOR, SHIP, [[3], [0], [0], [0]]]),
    (NoDriving, who_gives_way, [CHART, SHIP, CORRIDOR, SHIP, [[3], [0], [0], [0]]]),
    (NotInPlay, GiveWay(*COUPLE), [[3, 3], [0]]),
    (NotInPlay, GiveWay(*TWINS), [[0, 0], [0, 1, 2, 1]]),
    (NoWay, voyage, [CHART, Ship(6, slow=1), [0, 0]]),
    (InvalidOrder, breaking_legs, [SAILINGS, ORDERS + [("by", 3, 0)], [0, 0, 0]]),
    (InvalidOrder, least_schedule, [SAILINGS, ORDERS + [("after", 1, 1, 0)]]),
    (InvalidStay, lying_spans, [SAILINGS, [0, 0, 0], [(0, 1)]]),
    (BadText, parse_deeds, ["withdraw 3\n"]),
    (InvalidSetting, Desk, [CHART, 25, [SHIP]]),
    (InvalidSetting, replay, [CHART, 3, [], POST, "no deed"]),
    (BadText, replay, [CHART, 3, [SHIP, SHIP], POST, "withdraw 0"]),
    (InvalidReport, refused_by_desk, ["report", 0, 0, [4]]),
    (Contradiction, refused_by_desk, ["report", 0, 0, [1, 0]]),
    (InvalidReceipt, refused_by_desk, ["receive", 0, 2, 5, [True]]),
    (UnknownEntry, refused_by_desk, ["withdraw", 1]),
    (NothingToUndo, refused_by_desk, ["undo"]),
    (NothingToRedo, refused_by_desk, ["redo"]),
]
