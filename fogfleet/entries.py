"""Entries of a watch desk: what its deeds leave standing, and what may be entered.

A deed is one of the tuples of `Desk.deeds`, an entry one of those of
`Desk.standing`.
"""

from fogfleet.reports import Report
from fogfleet.runs import earliest_run, latest_run
from fogfleet.zones import right_zone

KEEPER = "k0"


def entry_count(deeds):
    """Return how many entries the deeds made, so the number of the next one."""
    return len([deed for deed in deeds if deed[0] != "withdraw"])


def standing_entries(deeds):
    """Return the entries that stand after the deeds, in the order of their numbers."""
    standing = {}
    number = 0
    for deed in deeds:
        if deed[0] == "withdraw":
            del standing[deed[1]]
            continue
        word = "report" if deed[0] == "report" else "receipt"
        standing[number] = (number, word) + deed[1:]
        number += 1
    return list(standing.values())


def report_of(facts):
    """Return the report of an entry without its number."""
    word, ship, hour, zone, inside, weight = facts
    return Report(ship, hour, zone, weight=weight, inside=inside)


def wrong_part_of_entry(setting, ship, hour, zone):
    """Return the name of the first part of a report that is wrong at the desk, or None.

    What is right here is right for a Report, too, as the setting keeps its
    limits; the weight is left to the Report.
    """
    if not 0 <= ship < len(setting.ships):
        return "ship"
    if not 0 <= hour <= setting.horizon:
        return "hour"
    return None if right_zone(zone, setting.chart.size) else "zone"


def is_own_event(letters, number, event):
    """Tell whether the letter has this event, and it takes place at the desk."""
    letter = letters[number]
    return 0 <= event <= len(letter.hops) and letter.agent_of(event) == KEEPER


def can_come(letters, number, event, hour):
    """Tell whether the event has this hour in some run."""
    return earliest_run(letters)[number][event] <= hour <= latest_run(letters)[number][event]


def wrong_part_of_receipt(setting, receipts, letter, event, hour, flags):
    """Return the name of the first part of a receipt that is wrong, or None.

    `receipts` are the standing receipts as tuples (letter, event, hour, flags).
    """
    if not 0 <= letter < len(setting.letters):
        return "letter"
    if not is_own_event(setting.letters, letter, event):
        return "event"
    told = [(other, known) for number, other, coming, known in receipts if number == letter]
    if any([other == event for other, known in told]):
        return "event"
    if not can_come(setting.letters, letter, event, hour):
        return "hour"
    if len(flags) != len(setting.ships) or any([known != tuple(flags) for other, known in told]):
        return "flags"
    return None
