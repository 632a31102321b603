"""Slow references for worlds: all of them in a list, and all successions by going through it."""

import itertools
import random

from fogfleet.reports import Report
from fogfleet.setting import Setting
from fogfleet.ships import Ship
from tests.helpers import (fitting, random_chart, random_letter, random_report, random_zone, runs_of,
                           slow_seen)

KEEPERS = ["k0", "k1", "k2"]


def slow_corridor(setting, number):
    return [[place for place in range(setting.chart.size)
             if all((place in report.zone) == report.inside for report in setting.reports
                    if report.ship == number and report.hour == hour)]
            for hour in range(setting.horizon + 1)]


def worlds_of(setting):
    """All worlds of a small setting."""
    drivings = [fitting(setting.chart, ship, slow_corridor(setting, number))
                for number, ship in enumerate(setting.ships)]
    runs = runs_of(setting.letters)
    return [([list(driving) for driving in row], [list(hours) for hours in run])
            for row in itertools.product(*drivings) for run in runs]


def slow_view(setting, world, agent, hour):
    drivings, run = world
    comings = tuple(slow_seen(setting.letters, run, agent, hour))
    told = []
    for number in sorted({letter for letter, _, _ in comings}):
        letter = setting.letters[number]
        told.append((number, tuple(driving[letter.hour] in letter.zone for driving in drivings)))
    own = tuple(drivings[int(agent[1])][:hour + 1]) if agent[0] == "s" else None
    return (agent, hour, comings, tuple(told), own)


def successors(setting, worlds, current, agent, hour):
    """All worlds that are alike to one of the current ones."""
    views = {slow_view(setting, world, agent, hour) for world in current}
    return [world for world in worlds if slow_view(setting, world, agent, hour) in views]


def last_worlds(setting, worlds, view, chain):
    """The last worlds of all successions for the view and the chain."""
    current = [world for world in worlds if slow_view(setting, world, view[0], view[1]) == view]
    for agent, hour in chain:
        current = successors(setting, worlds, current, agent, hour)
    return current


def slow_true(setting, world, fact):
    drivings, run = world
    if fact[0] == "in":
        return drivings[fact[1]][fact[2]] in fact[3]
    if fact[0] == "out":
        return drivings[fact[1]][fact[2]] not in fact[3]
    if fact[0] == "together":
        return drivings[fact[1]][fact[3]] == drivings[fact[2]][fact[3]]
    if fact[0] == "apart":
        return all(a != b for a, b in zip(drivings[fact[1]], drivings[fact[2]]))
    if fact[0] == "by":
        return run[fact[1]][fact[2]] <= fact[3]
    if fact[0] == "from":
        return run[fact[1]][fact[2]] >= fact[3]
    return fact[3] in [letter for letter, _, _ in slow_seen(setting.letters, run, fact[1], fact[2])]


def facts_of(setting, dice, many=3):
    """Some facts of each kind that the setting has."""
    ships, letters = range(len(setting.ships)), range(len(setting.letters))
    found = []
    for _ in range(many):
        zone = tuple(sorted(random_zone(dice, setting.chart.size, dice.choice([0, 0.4, 0.7, 1]))))
        ship, hour = dice.choice(ships), dice.randint(0, setting.horizon)
        found += [("in", ship, hour, zone), ("out", ship, hour, zone)]
        if len(ships) > 1:
            first, second = dice.sample(ships, 2)
            found += [("together", first, second, hour), ("apart", first, second)]
        if letters:
            letter = dice.choice(letters)
            event = dice.randint(0, len(setting.letters[letter].hops))
            hour = dice.randint(0, setting.horizon + 4)
            agent = dice.choice(agents_of(setting))
            found += [("by", letter, event, hour), ("from", letter, event, hour),
                      ("holds", agent, hour, letter)]
    return found


def agents_of(setting):
    return KEEPERS + [f"s{number}" for number in range(len(setting.ships))]


def random_chain(setting, dice, most=6):
    """A chain of few agents, so that some of them come again."""
    agents = dice.sample(agents_of(setting), 2) + ["s0"]
    return [(dice.choice(agents), dice.randint(0, setting.horizon + 4))
            for _ in range(dice.randint(0, most))]


def random_setting(seed, most=1500):
    """A small setting with its worlds, of which there are at least one and not too many."""
    dice = random.Random(seed)
    while True:
        chart = random_chart(dice.randrange(10 ** 9), most=3, deepest=6)
        horizon = dice.randint(0, 4)
        ships = []
        for _ in range(dice.choice([1, 1, 2])):
            slow, fast = dice.choice([(0, 1), (0, 1), (0, 0), (0, 2), (1, 2)])
            tank = dice.choice([0, 1, 2, 8])
            ships.append(Ship(dice.randint(0, 5), slow=slow, fast=fast, tank=tank,
                              fuel=dice.randint(0, tank)))
        agents = KEEPERS + [f"s{number}" for number in range(len(ships))]
        letters = [random_letter(dice, agents, chart.size, horizon, 2)
                   for _ in range(dice.choice([0, 1, 2, 2, 3]))]
        reports = [random_report(dice, chart.size, dice.randrange(len(ships)), horizon)
                   for _ in range(dice.choice([0, 1, 2]))]
        if dice.random() < 0.3:
            # Ships whose first places are known may surely keep apart.
            reports += [Report(number, 0, [dice.randrange(chart.size)]) for number in range(len(ships))]
        setting = Setting(chart, horizon, ships, reports=reports, letters=letters)
        worlds = worlds_of(setting) if horizon < 4 or len(ships) < 2 else []
        if 0 < len(worlds) <= most:
            return setting, worlds
