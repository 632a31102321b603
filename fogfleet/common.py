"""What agents know in common of the hours of events."""

from fogfleet.bounds import latest_alike


def common_run(post, run, agents, hour):
    """Return the least run, not below the given one, that latest_alike of no agent makes later."""
    found = [list(hours) for hours in run]
    before = None
    while found != before:
        before = found
        for agent in agents:
            found = latest_alike(post, found, agent, hour)
    return found


def commonly_by(post, run, agents, hour, letter, event, by):
    """Tell whether the event has at most this hour at the end of successions of any length."""
    return common_run(post, run, agents, hour)[letter][event] <= by
