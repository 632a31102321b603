"""Worlds, what agents notice in them, and facts."""

from fogfleet.agents import ship_number
from fogfleet.drivings import fits
from fogfleet.runs import held, is_run, seen

RUN_FACTS = ("by", "from", "holds")


def is_world(setting, world):
    """Tell whether the drivings and the run are a world of the setting."""
    drivings, run = world
    if len(drivings) != len(setting.ships) or not is_run(setting.letters, run):
        return False
    for number, driving in enumerate(drivings):
        if not fits(setting.chart, setting.ships[number], setting.corridor(number), driving):
            return False
    return True


def answers(setting, drivings):
    """Return for each letter whether each ship is in its zone at its hour."""
    rows = []
    for letter in setting.letters:
        rows.append([driving[letter.hour] in letter.zone for driving in drivings])
    return rows


def view_of(setting, world, agent, hour):
    """Return what the agent has noticed in the world by the hour."""
    drivings, run = world
    flags = answers(setting, drivings)
    comings = tuple(seen(setting.letters, run, agent, hour))
    letters = held(setting.letters, run, agent, hour)
    told = tuple([(letter, tuple(flags[letter])) for letter in letters])
    number = ship_number(agent)
    own = None if number is None else tuple(drivings[number][:hour + 1])
    return (agent, hour, comings, told, own)


def alike(setting, first, second, agent, hour):
    """Tell whether the agent has noticed the same in both worlds by the hour."""
    return view_of(setting, first, agent, hour) == view_of(setting, second, agent, hour)


def fits_view(setting, world, view):
    """Tell whether this is a world of the setting in which the agent has this view."""
    agent, hour, comings, told, own = view
    return is_world(setting, world) and view_of(setting, world, agent, hour) == view


def true_of_run(letters, run, fact):
    """Tell whether a fact about letters holds in the run."""
    if fact[0] == "holds":
        word, agent, hour, number = fact
        return number in held(letters, run, agent, hour)
    word, number, event, hour = fact
    if word == "by":
        return run[number][event] <= hour
    return run[number][event] >= hour


def true_of_drivings(drivings, fact):
    """Tell whether a fact about ships holds with these drivings."""
    word = fact[0]
    if word == "in":
        return drivings[fact[1]][fact[2]] in fact[3]
    if word == "out":
        return drivings[fact[1]][fact[2]] not in fact[3]
    first = drivings[fact[1]]
    second = drivings[fact[2]]
    if word == "together":
        return first[fact[3]] == second[fact[3]]
    return not any([place == other for place, other in zip(first, second)])


def is_true(setting, world, fact):
    """Tell whether the fact holds in the world."""
    drivings, run = world
    if fact[0] in RUN_FACTS:
        return true_of_run(setting.letters, run, fact)
    return true_of_drivings(drivings, fact)
