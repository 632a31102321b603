"""Which letters an agent still needs to be sure where a ship is."""

from itertools import combinations

from fogfleet.agents import ship_number
from fogfleet.bundles import beginning_with
from fogfleet.reach import first_driving
from fogfleet.runs import held
from fogfleet.steps import step_table
from fogfleet.tables import rich_rows
from fogfleet.zones import narrowed


def answered_alike(setting, corridor, driving, letters):
    """Return the corridor with only those places that answer the letters as the driving does."""
    for number in letters:
        letter = setting.letters[number]
        corridor = narrowed(corridor, letter.hour, letter.zone, driving[letter.hour] in letter.zone)
    return corridor


def doubtful_corridor(setting, world, agent, hour, fact):
    """Return the corridor of the ship of the fact in the worlds in which the fact is false.

    The worlds are those that are alike to the given one for the agent.
    """
    drivings, run = world
    word, number, when, zone = fact
    corridor = narrowed(setting.corridor(number), when, zone, word == "out")
    if ship_number(agent) == number:
        corridor = beginning_with(corridor, drivings[number][:hour + 1])
    letters = held(setting.letters, run, agent, hour)
    return answered_alike(setting, corridor, drivings[number], letters)


def unheld(setting, run, agent, hour):
    """Return the numbers of the letters up to the hour that the agent does not hold."""
    letters = held(setting.letters, run, agent, hour)
    return [number for number, letter in enumerate(setting.letters)
            if letter.hour <= hour and number not in letters]


def least_letters(setting, world, agent, hour, fact):
    """Return the fewest letters that would make the agent sure of the fact, or None."""
    drivings, run = world
    number = fact[1]
    chart, ship = setting.chart, setting.ships[number]
    steps = step_table(chart, ship, setting.horizon)
    corridor = doubtful_corridor(setting, world, agent, hour, fact)

    def is_enough(letters):
        """Tell whether no driving that answers these letters alike makes the fact false."""
        narrow = answered_alike(setting, corridor, drivings[number], letters)
        last = rich_rows(chart, ship, narrow, steps)[-1]
        return not any([fuel is not None for fuel in last])

    candidates = unheld(setting, run, agent, hour)
    for many in range(len(candidates) + 1):
        for letters in combinations(candidates, many):
            if is_enough(letters):
                return list(letters)
    return None


def parting_world(setting, world, agent, hour, letters, fact):
    """Return a world alike for the agent and the letters in which the fact is false, or None."""
    drivings, run = world
    number = fact[1]
    corridor = doubtful_corridor(setting, world, agent, hour, fact)
    corridor = answered_alike(setting, corridor, drivings[number], letters)
    driving = first_driving(setting.chart, setting.ships[number], corridor)
    if driving is None:
        return None
    rows = [list(row) for row in drivings]
    rows[number] = driving
    return (rows, [list(hours) for hours in run])
