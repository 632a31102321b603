"""The watch desk: entries that may come late and may be withdrawn, and what they tell."""

from fogfleet.claims import parse_claim
from fogfleet.deeds import format_deeds, lines_of, parse_deed
from fogfleet.disbelief import reason, strength
from fogfleet.entries import (
    KEEPER, entry_count, report_of, standing_entries, wrong_part_of_entry, wrong_part_of_receipt)
from fogfleet.errors import (
    BadClaim, BadText, Contradiction, FleetError, InvalidReceipt, InvalidReport, NothingToRedo,
    NothingToUndo, UnknownEntry)
from fogfleet.knowing import prospects_for
from fogfleet.meeting import meeting_verdict
from fogfleet.naming import first_unknown_word
from fogfleet.questions import settling, verdict
from fogfleet.reports import Report
from fogfleet.setting import Setting
from fogfleet.zones import narrowed


class Desk:
    """A watch desk: the keeper k0 with its entries."""

    def __init__(self, chart, horizon, ships, *, letters=()):
        # The setting without reports has all that never changes at the desk.
        self._base = Setting(chart, horizon, ships, letters=letters)
        self._done = []
        self._undone = []
        self._entries = []

    def __iter__(self):
        """Go through the standing entries in ascending order of their numbers."""
        return iter(self._entries)

    def _let_stand(self, done, undone):
        """Make these the deeds in effect and those that can be done again, the next one last."""
        self._done = done
        self._undone = undone
        # A new list, as a caller may just go through the old one.
        self._entries = standing_entries(done)

    def _enter(self, deed):
        """Do a deed that makes an entry, and return its number."""
        number = entry_count(self._done)
        self._let_stand(self._done + [deed], [])
        return number

    def _standing_reports(self):
        """Return the numbers of the entries that are standing reports, and these reports."""
        rows = [entry for entry in self._entries if entry[1] == "report"]
        return ([entry[0] for entry in rows], [report_of(entry[1:]) for entry in rows])

    def _receipts(self):
        """Return the standing receipts as tuples (letter, event, hour, flags)."""
        return [entry[2:] for entry in self._entries if entry[1] == "receipt"]

    def report(self, ship, hour, zone, *, weight=1, inside=True, firm=False):
        """Enter a report, and return the number of its entry."""
        part = wrong_part_of_entry(self._base, ship, hour, zone)
        if part is not None:
            raise InvalidReport(part)
        report = Report(ship, hour, zone, weight=weight, inside=inside)
        if firm:
            self._check_firm(report)
        return self._enter(("report", ship, hour, report.zone, inside, weight))

    def _check_firm(self, report):
        """Raise Contradiction if no driving meets the report and the standing ones."""
        numbers, reports = self._standing_reports()
        reports.append(report)
        base = self._base
        found = reason(base.chart, base.ships[report.ship], base.horizon, reports, report.ship, 0, [])
        if found is not None:
            raise Contradiction([numbers[index] for index in found if index < len(numbers)])

    def receive(self, letter, event, hour, flags):
        """Enter the receipt of a letter, and return the number of its entry."""
        part = wrong_part_of_receipt(self._base, self._receipts(), letter, event, hour, flags)
        if part is not None:
            raise InvalidReceipt(part)
        return self._enter(("receive", letter, event, hour, tuple(flags)))

    def withdraw(self, number):
        """Withdraw a standing entry."""
        if number not in [entry[0] for entry in self._entries]:
            raise UnknownEntry(number)
        self._let_stand(self._done + [("withdraw", number)], [])

    def undo(self):
        """Take back the last deed that is in effect."""
        if not self._done:
            raise NothingToUndo("no deed is in effect")
        self._let_stand(self._done[:-1], self._undone + [self._done[-1]])

    def redo(self):
        """Do the deed again that was taken back most recently."""
        if not self._undone:
            raise NothingToRedo("no deed was taken back")
        self._let_stand(self._done + [self._undone[-1]], self._undone[:-1])

    def standing(self):
        """Return the standing entries in ascending order of their numbers."""
        return list(self._entries)

    def outlook(self):
        """Return the standing entries without their numbers, in ascending order."""
        return sorted([entry[1:] for entry in self._entries])

    def as_setting(self):
        """Return the setting with the standing reports and the letters."""
        reports = [report_of(facts) for facts in self.outlook() if facts[0] == "report"]
        base = self._base
        return Setting(base.chart, base.horizon, base.ships, reports=reports, letters=base.letters)

    def view_at(self, hour):
        """Return the view of the desk that consists of its receipts up to the hour."""
        rows = [row for row in self._receipts() if row[2] <= hour]
        comings = tuple(sorted([(letter, event, coming) for letter, event, coming, flags in rows]))
        told = tuple(sorted({(letter, flags) for letter, event, coming, flags in rows}))
        return (KEEPER, hour, comings, told, None)

    def _prospects(self, view):
        """Return the prospects of the desk, unless no world fits the view."""
        return prospects_for(self.as_setting(), view)

    def _corridors(self, numbers, at):
        """Return for each of the ships the corridor that the reports and the answers leave to it."""
        view = self.view_at(at)
        setting = self._prospects(view).setting
        agent, hour, comings, told, own = view
        corridors = []
        for number in numbers:
            corridor = setting.corridor(number)
            for index, flags in told:
                letter = setting.letters[index]
                corridor = narrowed(corridor, letter.hour, letter.zone, flags[number])
            corridors.append(corridor)
        return corridors

    def corridor(self, ship, *, at):
        """Return the corridor that the reports and the answers leave to the ship."""
        return self._corridors([ship], at)[0]

    def places(self, ship, *, at):
        """Return for each hour the zone of the ship in all worlds that fit the view."""
        view = self.view_at(at)
        return self._prospects(view).last_bundle(view, [], ship).zones()

    def judge(self, ship, hour, zone, *, at):
        """Return the word for a question about the ship."""
        corridor = self.corridor(ship, at=at)
        return verdict(self._base.chart, self._base.ships[ship], corridor, hour, zone)[0]

    def encounter(self, first, second, *, at):
        """Return the word for the meeting of two ships."""
        zones, others = self._corridors([first, second], at)
        ships = self._base.ships
        return meeting_verdict(self._base.chart, ships[first], zones, ships[second], others)[0]

    def settle(self, ship, hour, zone, *, at, after=0):
        """Return the best look-out that settles an open question about the ship, or None."""
        corridor = self.corridor(ship, at=at)
        return settling(self._base.chart, self._base.ships[ship], corridor, hour, zone, after)

    def ask(self, line, *, at):
        """Tell whether the desk is sure of the claim that the line is."""
        chain, fact = parse_claim(line)
        word = first_unknown_word(self._base, chain, fact)
        if word is not None:
            raise BadClaim(word)
        view = self.view_at(at)
        return self._prospects(view).sure(view, chain, fact)

    def cost(self, ship, hour, zone):
        """Return how much must be disbelieved before the answer can be no, or None."""
        numbers, reports = self._standing_reports()
        base = self._base
        found = strength(base.chart, base.ships[ship], base.horizon, reports, ship, hour, zone)
        return None if found is None else found[0]

    def grounds(self, ship, hour, zone):
        """Return the numbers of entries that make the question certain, none of them idle, or None."""
        numbers, reports = self._standing_reports()
        base = self._base
        found = reason(base.chart, base.ships[ship], base.horizon, reports, ship, hour, zone)
        return None if found is None else [numbers[index] for index in found]

    def trouble(self, ship):
        """Return the numbers of entries that contradict one another about the ship, or None."""
        return self.grounds(ship, 0, [])

    def deeds(self):
        """Return the deeds that are in effect, in their order."""
        return list(self._done)

    def journal(self):
        """Return the text of the deeds that are in effect."""
        return format_deeds(self._done)


def do_deed(desk, deed):
    """Do a deed at the desk."""
    if deed[0] == "report":
        word, ship, hour, zone, inside, weight = deed
        desk.report(ship, hour, zone, weight=weight, inside=inside)
    elif deed[0] == "receive":
        word, letter, event, hour, flags = deed
        desk.receive(letter, event, hour, flags)
    else:
        desk.withdraw(deed[1])


def replay(chart, horizon, ships, letters, text):
    """Return a new desk that has done the deeds of the journal."""
    desk = Desk(chart, horizon, ships, letters=letters)
    for line, words in enumerate(lines_of(text), start=1):
        deed = parse_deed(words)
        if deed is None:
            raise BadText(line)
        try:
            do_deed(desk, deed)
        except FleetError:
            raise BadText(line) from None
    return desk
