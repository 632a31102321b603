"""Lights: what they show, and from where they are visible."""

from fogfleet.errors import InvalidLight
from fogfleet.ways import lanes_to

GREATEST_PLACE = 11
LONGEST_PATTERN = 12
GREATEST_REACH = 3


def right_pattern(pattern):
    """Tell whether the pattern is made of 1 to 12 right characters."""
    if not 1 <= len(pattern) <= LONGEST_PATTERN:
        return False
    return all([sign in ("*", ".") for sign in pattern])


def wrong_part_of_light(place, pattern, reach):
    """Return the name of the first part of a light that is wrong, or None."""
    if not 0 <= place <= GREATEST_PLACE:
        return "place"
    if not right_pattern(pattern):
        return "pattern"
    if not 0 <= reach <= GREATEST_REACH:
        return "reach"
    return None


class Light:
    """A light, which never changes once it is made."""

    def __init__(self, place, pattern, *, reach=1):
        part = wrong_part_of_light(place, pattern, reach)
        if part is not None:
            raise InvalidLight(part)
        self.place = place
        self.pattern = pattern
        self.reach = reach


def flashes(light, hour, count):
    """Return what the light shows in so many hours from the hour on."""
    turn = len(light.pattern)
    return "".join([light.pattern[(hour + later) % turn] for later in range(count)])


def sight_zone(chart, light):
    """Return the zone of the places from which the light is visible."""
    counts = lanes_to(chart, light.place, [True] * chart.size)
    return [place for place, lanes in enumerate(counts) if lanes is not None and lanes <= light.reach]
