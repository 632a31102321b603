"""The chart: places with their depths, lanes between them, the tide, harbours."""

from fogfleet.errors import InvalidChart
from fogfleet.zones import right_zone

LONGEST_ROW = 12
GREATEST_DEPTH = 99
GREATEST_TIDE = 20


def right_row(numbers, greatest):
    """Tell whether these are 1 to 12 numbers from 0 to the greatest one."""
    if not 1 <= len(numbers) <= LONGEST_ROW:
        return False
    return all([0 <= number <= greatest for number in numbers])


def lower_first(lane):
    """Return the lane as a tuple of its lower and its higher place."""
    return (min(lane), max(lane))


def right_lanes(lanes, size):
    """Tell whether each lane joins another pair of different places below size."""
    pairs = [lower_first(lane) for lane in lanes]
    if not all([0 <= low < high < size for low, high in pairs]):
        return False
    return len(set(pairs)) == len(pairs)


def wrong_part_of_chart(depths, lanes, tide, harbours):
    """Return the name of the first part of a chart that is wrong, or None."""
    if not right_row(depths, GREATEST_DEPTH):
        return "depths"
    if not right_lanes(lanes, len(depths)):
        return "lanes"
    if not right_row(tide, GREATEST_TIDE):
        return "tide"
    if not right_zone(harbours, len(depths)):
        return "harbours"
    return None


def places_beside(lanes, place):
    """Return the ascending tuple of the places that a lane joins to this place."""
    beside = [low + high - place for low, high in lanes if place in (low, high)]
    return tuple(sorted(beside))


class Chart:
    """A chart, which never changes once it is made."""

    def __init__(self, depths, lanes, *, tide=(0,), harbours=()):
        part = wrong_part_of_chart(depths, lanes, tide, harbours)
        if part is not None:
            raise InvalidChart(part)
        self.depths = tuple(depths)
        self.lanes = tuple(sorted([lower_first(lane) for lane in lanes]))
        self.tide = tuple(tide)
        self.harbours = tuple(sorted(harbours))
        self.size = len(self.depths)
        self._beside = tuple([places_beside(self.lanes, place) for place in range(self.size)])

    def water(self, place, hour):
        """Return the water at the place at the hour."""
        return self.depths[place] + self.tide[hour % len(self.tide)]

    def low_water(self, place):
        """Return the least water that the place ever has."""
        return self.depths[place] + min(self.tide)

    def neighbours(self, place):
        """Return the zone of the places that a lane joins to this place."""
        return list(self._beside[place])

    def is_harbour(self, place):
        """Tell whether the place is a harbour."""
        return place in self.harbours
