"""Watch desks for tests, and a slow desk that does all deeds anew for each answer."""

import random

from fogfleet.desk import Desk
from fogfleet.letters import Letter
from fogfleet.reports import Report
from fogfleet.setting import Setting
from fogfleet.ships import Ship
from tests.helpers import line_chart, random_zone, rows_of
from tests.worldlists import random_setting, slow_view, worlds_of

CHART = line_chart(4)
STILL = Ship(0, fast=0)
SHIPS = [Ship(0), STILL]
HORIZON = 3
LETTERS = [
    Letter(1, [1, 0], "k1", [(0, "k0", 0, 2), (1, "s0", 0, 1), (0, "k0", 1, 3)]),
    Letter(0, [2], "k0", []),
    Letter(2, [3], "k2", [(0, "k1", 0, 0)]),
]


def example_desk():
    return Desk(CHART, HORIZON, SHIPS, letters=LETTERS)


def state_of(desk):
    """All that can be read off a desk without a question."""
    return desk.standing(), desk.outlook(), desk.deeds(), desk.journal(), list(desk)


class SlowDesk:
    """What a desk should answer, worked out from the list of the deeds in effect alone."""

    def __init__(self, chart, horizon, ships, letters):
        self.chart, self.horizon, self.ships, self.letters = chart, horizon, ships, letters
        self.done, self.undone = [], []

    def standing(self):
        entries, withdrawn = [], []
        for deed in self.done:
            if deed[0] == "withdraw":
                withdrawn.append(deed[1])
            else:
                entries.append((len(entries), {"report": "report", "receive": "receipt"}[deed[0]]) + deed[1:])
        return [entry for entry in entries if entry[0] not in withdrawn]

    def outlook(self):
        return sorted(entry[1:] for entry in self.standing())

    def next_number(self):
        return sum(deed[0] != "withdraw" for deed in self.done)

    def receipts(self):
        return [entry[2:] for entry in self.standing() if entry[1] == "receipt"]

    def reports(self):
        """The standing reports in the order of their numbers, with these numbers."""
        rows = [entry for entry in self.standing() if entry[1] == "report"]
        return ([row[0] for row in rows],
                [Report(row[2], row[3], row[4], weight=row[6], inside=row[5]) for row in rows])

    def setting(self):
        reports = [Report(row[1], row[2], row[3], weight=row[5], inside=row[4])
                   for row in self.outlook() if row[0] == "report"]
        return Setting(self.chart, self.horizon, self.ships, reports=reports, letters=self.letters)

    def view(self, hour):
        rows = sorted(row for row in self.receipts() if row[2] <= hour)
        told = []
        for letter, _, _, flags in rows:
            if (letter, flags) not in told:
                told.append((letter, flags))
        return ("k0", hour, tuple(row[:3] for row in rows), tuple(told), None)

    def worlds(self, hour):
        """All worlds that fit the view."""
        setting = self.setting()
        return [world for world in worlds_of(setting) if slow_view(setting, world, "k0", hour) == self.view(hour)]

    def corridor(self, ship, hour):
        zones = []
        for now in range(self.horizon + 1):
            zones.append([place for place in range(self.chart.size) if all(
                (place in report.zone) == report.inside for report in self.setting().reports
                if (report.ship, report.hour) == (ship, now)) and all(
                (place in self.letters[letter].zone) == flags[ship] for letter, flags in self.view(hour)[3]
                if self.letters[letter].hour == now)])
        return zones

    def wrong_report(self, ship, hour, zone, weight):
        """The first wrong part of a report, or None."""
        if ship not in range(len(self.ships)):
            return "ship"
        if hour not in range(self.horizon + 1):
            return "hour"
        if len(set(zone)) < len(zone) or not set(zone) <= set(range(self.chart.size)):
            return "zone"
        return None if weight in range(1, 100) else "weight"

    def wrong_receipt(self, letter, event, hour, flags):
        """The first wrong part of a receipt, or None."""
        if letter not in range(len(self.letters)):
            return "letter"
        agents = [self.letters[letter].writer] + [hop[1] for hop in self.letters[letter].hops]
        known = {row[1]: row[3] for row in self.receipts() if row[0] == letter}
        if event not in range(len(agents)) or agents[event] != "k0" or event in known:
            return "event"
        if hour not in {row[event] for row in rows_of(self.letters[letter])}:
            return "hour"
        if len(flags) != len(self.ships) or any(other != tuple(flags) for other in known.values()):
            return "flags"
        return None

    def do(self, deed):
        self.done, self.undone = self.done + [deed], []

    def undo(self):
        self.done, self.undone = self.done[:-1], self.undone + self.done[-1:]

    def redo(self):
        self.done, self.undone = self.done + self.undone[-1:], self.undone[:-1]


def random_desks(seed, most=300):
    """A desk and a slow desk, both without entries, with a world and the dice to go on with."""
    dice = random.Random(seed)
    while True:
        setting, worlds = random_setting(dice.randrange(10 ** 9), most)
        events = [letter.agent_of(event) for letter in setting.letters for event in range(len(letter.hops) + 1)]
        if "k0" in events or dice.random() < 0.05:
            break
    desk = Desk(setting.chart, setting.horizon, setting.ships, letters=setting.letters)
    slow = SlowDesk(setting.chart, setting.horizon, setting.ships, setting.letters)
    return desk, slow, dice.choice(worlds), dice


def told_report(slow, world, dice):
    """A report that is true in the world."""
    ship, hour = dice.randrange(len(slow.ships)), dice.randint(0, slow.horizon)
    place = world[0][ship][hour]
    zone = list(random_zone(dice, slow.chart.size, 0.5))
    inside = place in zone
    return ("report", ship, hour, tuple(sorted(zone)), inside, dice.choice([1, 1, 5, 99]))


def told_receipts(slow, world):
    """All receipts of the desk in the world."""
    drivings, run = world
    found = []
    for number, letter in enumerate(slow.letters):
        flags = tuple(driving[letter.hour] in letter.zone for driving in drivings)
        for event, hour in enumerate(run[number]):
            if letter.agent_of(event) == "k0":
                found.append(("receive", number, event, hour, flags))
    return found


def do_at(desk, deed):
    """Do a deed at a desk."""
    if deed[0] == "report":
        return desk.report(*deed[1:4], inside=deed[4], weight=deed[5])
    if deed[0] == "receive":
        return desk.receive(*deed[1:])
    return desk.withdraw(deed[1])


def filled_desks(seed, most=200):
    """A desk and a slow desk with some entries, most of which are true in one world."""
    desk, slow, world, dice = random_desks(seed, most)
    receipts = told_receipts(slow, world)
    dice.shuffle(receipts)
    if dice.random() < 0.3:
        receipts = receipts[1:]
    deeds = receipts + [told_report(slow, world, dice) for _ in range(dice.randint(0, 3))]
    if dice.random() < 0.2:
        word, ship, hour, zone, inside, weight = told_report(slow, world, dice)
        deeds.append((word, ship, hour, zone, not inside, weight))
    dice.shuffle(deeds)
    for deed in deeds:
        do_at(desk, deed)
        slow.do(deed)
    if slow.standing() and dice.random() < 0.2:
        number = dice.choice(slow.standing())[0]
        desk.withdraw(number)
        slow.do(("withdraw", number))
    return desk, slow, dice
