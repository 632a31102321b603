"""What several tests need: charts to try, and slow but plain references."""

import itertools
import random

from fogfleet.chart import Chart
from fogfleet.letters import Letter
from fogfleet.reports import Report
from fogfleet.ships import Ship

HUGE = 10 ** 39 + 7
AGENTS = ["k0", "k1", "s0", "s3"]


def small_chart():
    """The chart of the document's examples."""
    return Chart([5, 3, 8], [(1, 0), (1, 2)], tide=(0, 2), harbours=(2,))


def all_pairs(size):
    return list(itertools.combinations(range(size), 2))


def line_chart(size=12, depth=5, tide=(0,), harbours=()):
    """Places in a row, each joined to the next one."""
    lanes = [(k, k + 1) for k in range(size - 1)]
    return Chart([depth] * size, lanes, tide=tide, harbours=harbours)


def full_chart(size=12, depth=5, tide=(0,), harbours=()):
    """Each place is joined to each other one."""
    return Chart([depth] * size, all_pairs(size), tide=tide, harbours=harbours)


def random_chart(seed, most=6, deepest=9):
    """A chart that is the same for the same seed; lanes in any order and direction."""
    dice = random.Random(seed)
    size = dice.randint(1, most)
    depths = [dice.randint(0, deepest) for _ in range(size)]
    pairs = [pair for pair in all_pairs(size) if dice.random() < 0.5]
    lanes = [dice.choice([pair, pair[::-1]]) for pair in pairs]
    dice.shuffle(lanes)
    tide = [dice.randint(0, 6) for _ in range(dice.randint(1, 4))]
    harbours = [place for place in range(size) if dice.random() < 0.3]
    dice.shuffle(harbours)
    return Chart(depths, lanes, tide=tide, harbours=harbours)


def joined(chart, first, second):
    return (min(first, second), max(first, second)) in chart.lanes


def is_way(chart, places):
    return all(joined(chart, a, b) for a, b in zip(places, places[1:]))


def water(chart, place, hour):
    return chart.depths[place] + chart.tide[hour % len(chart.tide)]


def ways_of(chart, start, goal, lanes, draught, hour):
    """All ways with this number of lanes and water enough, in ascending order."""
    deep = [place for place in range(chart.size) if water(chart, place, hour) >= draught]
    ways = [list(way) for way in itertools.product(deep, repeat=lanes + 1)]
    return [way for way in ways if way[0] == start and way[-1] == goal and is_way(chart, way)]


def walks(chart, ship, hour):
    """A dict from (start, goal) to the least lanes of a step, found by walking lane by lane."""
    deep = [water(chart, place, hour) >= ship.draught for place in range(chart.size)]
    ends = {(place, place) for place in range(chart.size)}
    least = {}
    for lanes in range(ship.fast + 1):
        if lanes >= ship.slow:
            for pair in ends:
                least.setdefault(pair, lanes)
        ends = {(start, goal) for start, place in ends for goal in range(chart.size)
                if deep[place] and deep[goal] and joined(chart, place, goal)}
    return least


def fuel_walked(chart, ship, places, steps, hour, fuel):
    """The fuel after going through the places from the hour on, or None."""
    for start, goal in zip(places, places[1:]):
        lanes = steps[hour].get((start, goal))
        if lanes is None or lanes > fuel:
            return None
        fuel = ship.tank if goal in chart.harbours else fuel - lanes
        hour += 1
    return fuel


def fuel_at_start(chart, ship, place):
    return ship.tank if place in chart.harbours else ship.fuel


def fitting(chart, ship, corridor):
    """All fitting drivings as tuples in ascending order, found by trying all lists."""
    steps = [walks(chart, ship, hour) for hour in range(len(corridor) - 1)]
    return [places for places in itertools.product(*map(sorted, corridor))
            if fuel_walked(chart, ship, places, steps, 0,
                           fuel_at_start(chart, ship, places[0])) is not None]


def beginnings_of(drivings):
    """All beginnings of the drivings, as tuples."""
    return {driving[:many] for driving in drivings for many in range(len(driving) + 1)}


def random_zone(dice, size, share=0.7):
    """A zone in any order, as a list or a tuple."""
    zone = [place for place in range(size) if dice.random() < share]
    dice.shuffle(zone)
    return dice.choice([list, tuple])(zone)


def random_ship(dice):
    slow, fast = sorted([dice.choice([0, 0, 0, 1, 1, 2, 3]), dice.randint(0, 3)])
    tank = dice.choice([0, 1, 2, 3, 4, 8])
    return Ship(dice.randint(0, 9), slow=slow, fast=fast, tank=tank, fuel=dice.randint(0, tank))


def random_case(seed):
    """A small chart, a ship and a corridor, which are the same for the same seed."""
    dice = random.Random(seed)
    chart = random_chart(seed, most=4)
    share = dice.choice([0.5, 0.8, 0.9, 1])
    corridor = [random_zone(dice, chart.size, share) for _ in range(dice.randint(1, 5))]
    return chart, random_ship(dice), corridor


def all_places(chart, hours):
    """The corridor that allows each place at each hour."""
    return [list(range(chart.size)) for _ in range(hours)]


def plain_sight(chart, light):
    """The zone of sight, found by going lane by lane."""
    seen = {light.place}
    for _ in range(light.reach):
        seen |= {place for place in range(chart.size)
                 if any(joined(chart, place, other) for other in seen)}
    return sorted(seen)


def random_report(dice, size, ship=0, last=4):
    zone = random_zone(dice, size, dice.choice([0.3, 0.5, 0.8]))
    return Report(ship, dice.randint(0, last), zone, weight=dice.choice([1, 1, 2, 3, 99]),
                  inside=dice.random() < 0.6)


def zones_of(size):
    """All zones of a chart of this size, each in descending order."""
    places = range(size)[::-1]
    return [zone for many in range(size + 1) for zone in itertools.combinations(places, many)]


def split_drivings(drivings, hour, zone):
    """The drivings for a question and those against it."""
    return ([driving for driving in drivings if driving[hour] in zone],
            [driving for driving in drivings if driving[hour] not in zone])


def random_letter(dice, agents, size=4, hour=3, most=3, longest=2):
    """A letter with some hops to the agents, each of which takes only few hours."""
    hops = []
    for event in range(1, dice.randint(0, most) + 1):
        low = dice.randint(0, 1)
        hops.append((dice.randrange(event), dice.choice(agents), low, dice.randint(low, longest)))
    writer = dice.choice([agent for agent in agents if agent[0] == "k"])
    return Letter(dice.randint(0, hour), random_zone(dice, size, 0.4), writer, hops)


def random_post(seed, most=3):
    dice = random.Random(seed)
    return [random_letter(dice, AGENTS) for _ in range(dice.randint(0, most))]


def long_post(seed):
    """A letter that mostly goes from agent to agent, by many hops of at most one hour more."""
    dice = random.Random(seed)
    hops = []
    for event in range(6):
        low = dice.randint(0, 1)
        hops.append((dice.choice([event, event, event, max(event - 1, 0)]), dice.choice(AGENTS),
                     low, low + dice.choice([0, 1, 1])))
    return [Letter(dice.randint(0, 2), [], "k0", hops)]


def rows_of(letter):
    """All lists of hours that the events of the letter can have."""
    rows = []
    for lasts in itertools.product(*[range(low, high + 1) for _, _, low, high in letter.hops]):
        hours = [letter.hour]
        for (parent, _, _, _), last in zip(letter.hops, lasts):
            hours.append(hours[parent] + last)
        rows.append(hours)
    return rows


def runs_of(post):
    """All runs of a post, found by trying each length of each hop."""
    return [list(rows) for rows in itertools.product(*map(rows_of, post))]


def slow_seen(post, run, agent, hour):
    found = []
    for number, letter in enumerate(post):
        for event, coming in enumerate(run[number]):
            at = letter.writer if event == 0 else letter.hops[event - 1][1]
            if at == agent and coming <= hour:
                found.append((number, event, coming))
    return found


def alike_to(post, runs, run, agent, hour):
    """All of the runs that are alike to the run for the agent."""
    comings = slow_seen(post, run, agent, hour)
    return [other for other in runs if slow_seen(post, other, agent, hour) == comings]


def extreme(runs, choice):
    """The run that has for each event the least (min) or the greatest (max) hour of all runs."""
    return [[choice(hours) for hours in zip(*rows)] for rows in zip(*runs)]


def simple_ways(chart, start, goal, way=()):
    """All ways without a repeated place, without regard to water."""
    way = way or (start,)
    if way[-1] == goal:
        return [list(way)]
    found = []
    for place in range(chart.size):
        if place not in way and joined(chart, way[-1], place):
            found += simple_ways(chart, start, goal, way + (place,))
    return found


def lists_in(value):
    """All lists within a value, each once for each time that it occurs."""
    if isinstance(value, (list, tuple)):
        inner = [found for item in value for found in lists_in(item)]
        return ([value] if isinstance(value, list) else []) + inner
    return []


def spoil(value):
    """Change each list within a value."""
    for found in lists_in(value):
        found.append(99)
        found[0] = "spoiled"
