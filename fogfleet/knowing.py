"""What agents surely know, and worlds that show what they cannot know."""

from fogfleet.prospects import Prospects
from fogfleet.worlds import is_true, view_of


def prospects_for(setting, view):
    """Return the prospects in a setting, in which some world fits the view."""
    prospects = Prospects(setting)
    prospects.check(view)
    return prospects


def sure(setting, view, chain, fact):
    """Tell whether the fact is true in the last world of every succession."""
    return prospects_for(setting, view).sure(view, chain, fact)


def counter(setting, view, chain, fact):
    """Return a succession of worlds in the last one of which the fact is false, or None."""
    return prospects_for(setting, view).counter(view, chain, fact)


def ends(setting, view, chain, number):
    """Return for each hour the zone of the ship in the last worlds of all successions."""
    return prospects_for(setting, view).last_bundle(view, chain, number).zones()


def count_ends(setting, view, chain, number):
    """Return how many drivings the ship has in the last worlds of all successions."""
    return prospects_for(setting, view).last_bundle(view, chain, number).count()


def knows_with(prospects, world, chain, fact):
    """Tell whether the fact is true at the end of every succession from exactly this world."""
    if not chain:
        return is_true(prospects.setting, world, fact)
    agent, hour = chain[0]
    return prospects.sure(view_of(prospects.setting, world, agent, hour), chain[1:], fact)


def knows(setting, world, chain, fact):
    """Tell whether the fact is true at the end of every succession from exactly this world."""
    return knows_with(Prospects(setting), world, chain, fact)


def first_knowing(setting, world, agents, fact, limit=60):
    """Return the least hour at which the chain of the agents knows the fact, or None."""
    prospects = Prospects(setting)
    for hour in range(limit + 1):
        chain = [(agent, hour) for agent in agents]
        if knows_with(prospects, world, chain, fact):
            return hour
    return None
