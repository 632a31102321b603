"""Ways on a chart: the shortest one, the deepest one, and waiting for the tide.

The helpers take a list `deep` with True or False for each place: whether
the place has water enough.
"""


def deep_places(chart, draught, hour):
    """Return for each place whether it has water of at least draught at the hour."""
    return [chart.water(place, hour) >= draught for place in range(chart.size)]


def lanes_to(chart, goal, deep):
    """Return for each place the least lanes of a deep way to the goal, or None."""
    counts = [None] * chart.size
    lanes = 0
    edge = [goal] if deep[goal] else []
    while edge:
        for place in edge:
            counts[place] = lanes
        lanes += 1
        edge = next_edge(chart, counts, deep, edge)
    return counts


def next_edge(chart, counts, deep, edge):
    """Return the deep places beside the edge that have no count yet."""
    found = []
    for place in range(chart.size):
        if deep[place] and counts[place] is None:
            if any([other in edge for other in chart.neighbours(place)]):
                found.append(place)
    return found


def first_way(chart, start, goal, deep):
    """Return the first of the shortest ways over deep places, or None."""
    counts = lanes_to(chart, goal, deep)
    if counts[start] is None:
        return None
    way = [start]
    for lanes in reversed(range(counts[start])):
        # The least neighbour that is one lane nearer keeps the way first.
        nearer = [place for place in chart.neighbours(way[-1]) if counts[place] == lanes]
        way.append(min(nearer))
    return way


def count_lanes(chart, start, goal, draught=0, hour=0):
    """Return the least number of lanes of a way with enough water, or None."""
    return lanes_to(chart, goal, deep_places(chart, draught, hour))[start]


def shortest_way(chart, start, goal, draught=0, hour=0):
    """Return the first way with enough water and the fewest lanes, or None."""
    return first_way(chart, start, goal, deep_places(chart, draught, hour))


def widest_way(chart, start, goal):
    """Return the greatest draught of a way at low water, such a way, and a cut.

    No way of greater draught exists, so each way passes a place of at most
    this low water: all such places together are a cut.
    """
    lows = [chart.low_water(place) for place in range(chart.size)]
    for draught in sorted(lows, reverse=True):
        way = first_way(chart, start, goal, [low >= draught for low in lows])
        if way is not None:
            cut = [place for place in range(chart.size) if lows[place] <= draught]
            return (draught, way, [start] if start == goal else cut)
    return None


def arriving(chart, hours, deep):
    """Return the places without an hour that a deep lane joins to one with an hour."""
    found = []
    for place in range(chart.size):
        if deep[place] and hours[place] is None:
            beside = chart.neighbours(place)
            if any([deep[other] and hours[other] is not None for other in beside]):
                found.append(place)
    return found


def arrivals(chart, start, draught=0, hour=0, last=24):
    """Return for each place the least hour at which a waiting boat can be there, or None."""
    hours = [None] * chart.size
    hours[start] = hour
    for now in range(hour, last):
        found = arriving(chart, hours, deep_places(chart, draught, now))
        for place in found:
            hours[place] = now + 1
    return hours
