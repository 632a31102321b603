"""Two ships on small charts, for the tests of meetings and of giving way."""

import random

from fogfleet.ships import Ship
from tests.helpers import fitting, random_chart, random_ship, random_zone


def ship_for(dice):
    """Mostly a ship that can wait, so that some driving fits."""
    if dice.random() < 0.3:
        return random_ship(dice)
    tank = dice.choice([1, 2, 3, 8])
    return Ship(dice.randint(0, 5), fast=dice.choice([1, 1, 2]), tank=tank, fuel=dice.randint(0, tank))


def random_zones(dice, size, many):
    """A corridor in which no zone is empty; narrow ones make it likely that ships surely meet."""
    share = dice.choice([0.4, 0.6, 0.8, 1])
    return [random_zone(dice, size, share) or [dice.randrange(size)] for _ in range(many)]


def random_couple(seed, places=4, hours=5):
    """What is passed for two ships: a chart, and a ship with its corridor twice."""
    dice = random.Random(seed)
    chart = random_chart(seed, most=places)
    many = dice.randint(1, hours)
    zones, others = [random_zones(dice, chart.size, many) for _ in range(2)]
    if dice.random() < 0.3:
        # These ships can hardly meet.
        others = [[place for place in range(chart.size) if place not in zone] or [0] for zone in zones]
    return [chart, ship_for(dice), zones, ship_for(dice), others]


def both_fitting(couple):
    """The fitting drivings of both ships."""
    chart, first, corridor, second, other = couple
    return fitting(chart, first, corridor), fitting(chart, second, other)


def possible_couples(seeds, places=4, hours=5, most=10 ** 6):
    """Couples in which both ships have a fitting driving, with their drivings."""
    for seed in seeds:
        couple = random_couple(seed, places, hours)
        firsts, seconds = both_fitting(couple)
        if firsts and seconds and len(firsts) * len(seconds) <= most:
            yield couple, firsts, seconds


def meet(driving, other):
    return any(place == at for place, at in zip(driving, other))


def slow_word(firsts, seconds):
    """The word of meeting_verdict, found by trying all pairs of drivings."""
    found = {meet(driving, other) for driving in firsts for other in seconds}
    return "open" if len(found) == 2 else "always" if True in found else "never"


def impossible_couples():
    """What is refused: couples with the number of the ship that has no driving."""
    chart = random_chart(3, most=4)
    yes, no, late = [[0], [0]], [[0], []], [[], [0]]
    still = Ship(0, fast=0)
    return [([chart, still, no, still, yes], 0), ([chart, still, yes, still, no], 1),
            ([chart, still, no, still, late], 0), ([chart, still, late, still, no], 0),
            ([chart, still, [[]], still, [[0]]], 0), ([chart, still, [[0]], still, [[]]], 1),
            ([chart, still, yes, Ship(0, slow=1, fast=1, tank=0), yes], 1)]
