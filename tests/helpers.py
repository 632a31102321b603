"""What several tests need: charts to try, and slow but plain references."""

import itertools
import random

from fogfleet.chart import Chart


def small_chart():
    """The chart of the document's examples."""
    return Chart([5, 3, 8], [(1, 0), (1, 2)], tide=(0, 2), harbours=(2,))


def all_pairs(size):
    return list(itertools.combinations(range(size), 2))


def line_chart(size=12, depth=5, tide=(0,)):
    """Places in a row, each joined to the next one."""
    return Chart([depth] * size, [(k, k + 1) for k in range(size - 1)], tide=tide)


def full_chart(size=12, depth=5, tide=(0,)):
    """Each place is joined to each other one."""
    return Chart([depth] * size, all_pairs(size), tide=tide)


def random_chart(seed, most=6, deepest=9):
    """A chart that is the same for the same seed; lanes in any order and direction."""
    dice = random.Random(seed)
    size = dice.randint(1, most)
    depths = [dice.randint(0, deepest) for _ in range(size)]
    pairs = [pair for pair in all_pairs(size) if dice.random() < 0.5]
    lanes = [dice.choice([pair, pair[::-1]]) for pair in pairs]
    dice.shuffle(lanes)
    tide = [dice.randint(0, 6) for _ in range(dice.randint(1, 4))]
    harbours = [place for place in range(size) if dice.random() < 0.3]
    dice.shuffle(harbours)
    return Chart(depths, lanes, tide=tide, harbours=harbours)


def joined(chart, first, second):
    return (min(first, second), max(first, second)) in chart.lanes


def is_way(chart, places):
    return all(joined(chart, a, b) for a, b in zip(places, places[1:]))


def water(chart, place, hour):
    return chart.depths[place] + chart.tide[hour % len(chart.tide)]


def ways_of(chart, start, goal, lanes, draught, hour):
    """All ways with this number of lanes and water enough, in ascending order."""
    deep = [place for place in range(chart.size) if water(chart, place, hour) >= draught]
    ways = [list(way) for way in itertools.product(deep, repeat=lanes + 1)]
    return [way for way in ways if way[0] == start and way[-1] == goal and is_way(chart, way)]


def simple_ways(chart, start, goal, way=()):
    """All ways without a repeated place, without regard to water."""
    way = way or (start,)
    if way[-1] == goal:
        return [list(way)]
    found = []
    for place in range(chart.size):
        if place not in way and joined(chart, way[-1], place):
            found += simple_ways(chart, start, goal, way + (place,))
    return found


def lists_in(value):
    """All lists within a value, each once for each time that it occurs."""
    if isinstance(value, (list, tuple)):
        inner = [found for item in value for found in lists_in(item)]
        return ([value] if isinstance(value, list) else []) + inner
    return []


def spoil(value):
    """Change each list within a value."""
    for found in lists_in(value):
        found.append(99)
        found[0] = "spoiled"
