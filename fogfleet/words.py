"""Numbers and zones as words of texts and lines."""

from fogfleet.limits import MOST_PLACES

# Hours and entries are written with at most 3 digits.
GREATEST_NUMBER = 999
NO_PLACE = "-"


def number_of(word, greatest):
    """Return the number that the word writes, or None.

    None stands for a word that is no number as the program writes it, and
    for a number above the greatest one.
    """
    # Python refuses to read very long numbers, so the length comes first.
    if len(word) > len(str(greatest)) or not (word.isascii() and word.isdigit()):
        return None
    number = int(word)
    if str(number) != word or number > greatest:
        return None
    return number


def zone_word(zone):
    """Return the word that writes the zone."""
    return ",".join([str(place) for place in sorted(zone)]) or NO_PLACE


def zone_of(word):
    """Return the ascending tuple of places that the word writes, or None."""
    if word == NO_PLACE:
        return ()
    places = [number_of(part, MOST_PLACES - 1) for part in word.split(",")]
    if None in places or places != sorted(set(places)):
        return None
    return tuple(places)
