"""Chains of agents: what one knows that the next one knows, and so on."""

from fogfleet.bounds import earliest_alike, latest_alike
from fogfleet.runs import held


def runs_along(post, run, chain, alike):
    """Return for each link the run that `alike` makes of the run before it."""
    runs = []
    now = run
    for agent, hour in chain:
        now = alike(post, now, agent, hour)
        runs.append(now)
    return runs


def latest_chain(post, run, chain):
    """Return for each link the run with the greatest hours after it."""
    return runs_along(post, run, chain, latest_alike)


def earliest_chain(post, run, chain):
    """Return for each link the run with the least hours after it."""
    return runs_along(post, run, chain, earliest_alike)


def knows_by(post, run, chain, letter, event, by):
    """Tell whether the event has at most this hour at the end of every succession of runs."""
    end = ([run] + latest_chain(post, run, chain))[-1]
    return end[letter][event] <= by


def knows_from(post, run, chain, letter, event, since):
    """Tell whether the event has at least this hour at the end of every succession of runs."""
    end = ([run] + earliest_chain(post, run, chain))[-1]
    return end[letter][event] >= since


def knows_held(post, run, chain, agent, hour, letter):
    """Tell whether the agent holds the letter at the end of every succession of runs."""
    # No event is later in any other succession, so no agent holds less.
    end = ([run] + latest_chain(post, run, chain))[-1]
    return letter in held(post, end, agent, hour)


def first_hour(post, run, agents, letter, event, by, limit=60):
    """Return the least hour at which the chain of the agents knows the hour of the event, or None."""
    for hour in range(limit + 1):
        chain = [(agent, hour) for agent in agents]
        if knows_by(post, run, chain, letter, event, by):
            return hour
    return None
