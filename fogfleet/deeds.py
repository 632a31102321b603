"""Deeds of a watch desk, written as lines."""

from fogfleet.errors import BadText
from fogfleet.limits import GREATEST_WEIGHT, MOST_HOPS, MOST_LETTERS, MOST_SHIPS
from fogfleet.words import GREATEST_NUMBER, number_of, zone_of, zone_word


def format_deed(deed):
    """Return the line of a deed."""
    if deed[0] == "report":
        word, ship, hour, zone, inside, weight = deed
        side = "in" if inside else "out"
        return f"report {ship} at {hour} {side} {zone_word(zone)} weight {weight}"
    if deed[0] == "receive":
        word, letter, event, hour, flags = deed
        signs = "".join(["y" if flag else "n" for flag in flags])
        return f"receive {letter} event {event} at {hour} {signs}"
    return f"withdraw {deed[1]}"


def format_deeds(deeds):
    """Return the text of the deeds."""
    return "\n".join([format_deed(deed) for deed in deeds])


def flags_of(word):
    """Return the tuple of flags that the word writes, or None."""
    if not 1 <= len(word) <= MOST_SHIPS or not all([sign in ("y", "n") for sign in word]):
        return None
    return tuple([sign == "y" for sign in word])


def read_report(words):
    """Return the deed of a report with these words, or None."""
    if len(words) != 8 or words[2] != "at" or words[4] not in ("in", "out") or words[6] != "weight":
        return None
    ship = number_of(words[1], MOST_SHIPS - 1)
    hour = number_of(words[3], GREATEST_NUMBER)
    zone = zone_of(words[5])
    weight = number_of(words[7], GREATEST_WEIGHT)
    if None in (ship, hour, zone, weight) or weight == 0:
        return None
    return ("report", ship, hour, zone, words[4] == "in", weight)


def read_receipt(words):
    """Return the deed of a receipt with these words, or None."""
    if len(words) != 7 or words[2] != "event" or words[4] != "at":
        return None
    letter = number_of(words[1], MOST_LETTERS - 1)
    event = number_of(words[3], MOST_HOPS)
    hour = number_of(words[5], GREATEST_NUMBER)
    flags = flags_of(words[6])
    if None in (letter, event, hour, flags):
        return None
    return ("receive", letter, event, hour, flags)


def read_withdrawal(words):
    """Return the deed of a withdrawal with these words, or None."""
    if len(words) != 2:
        return None
    number = number_of(words[1], GREATEST_NUMBER)
    return None if number is None else ("withdraw", number)


def parse_deed(line):
    """Return the deed with this line, or None."""
    words = line.split(" ")
    if words[0] == "report":
        return read_report(words)
    if words[0] == "receive":
        return read_receipt(words)
    if words[0] == "withdraw":
        return read_withdrawal(words)
    return None


def lines_of(text):
    """Return the lines of a text of deeds."""
    return text.split("\n") if text else []


def parse_deeds(text):
    """Return the deeds that the text writes."""
    deeds = []
    for line, words in enumerate(lines_of(text), start=1):
        deed = parse_deed(words)
        if deed is None:
            raise BadText(line)
        deeds.append(deed)
    return deeds
