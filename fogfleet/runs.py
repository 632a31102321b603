"""Runs: the hours at which the events of letters happen, and who sees them."""


def is_row_of(letter, hours):
    """Tell whether these can be the hours of the events of the letter."""
    if len(hours) != len(letter.hops) + 1 or hours[0] != letter.hour:
        return False
    for event, (parent, agent, low, high) in enumerate(letter.hops, start=1):
        if not low <= hours[event] - hours[parent] <= high:
            return False
    return True


def is_run(post, run):
    """Tell whether the lists of hours are a run of the post."""
    if len(run) != len(post):
        return False
    return all([is_row_of(letter, hours) for letter, hours in zip(post, run)])


def spread(letter, lasts):
    """Return the hours of the events of a letter whose hops take so many hours."""
    hours = [letter.hour]
    for hop, last in zip(letter.hops, lasts):
        hours.append(hours[hop[0]] + last)
    return hours


def earliest_run(post):
    """Return the run in which each hop comes as early as it can."""
    return [spread(letter, [low for parent, agent, low, high in letter.hops]) for letter in post]


def latest_run(post):
    """Return the run in which each hop comes as late as it can."""
    return [spread(letter, [high for parent, agent, low, high in letter.hops]) for letter in post]


def seen(post, run, agent, hour):
    """Return the tuples (letter, event, coming) of the events that the agent sees at the hour."""
    found = []
    for number, letter in enumerate(post):
        for event, coming in enumerate(run[number]):
            if coming <= hour and letter.agent_of(event) == agent:
                found.append((number, event, coming))
    return found


def held(post, run, agent, hour):
    """Return the numbers of the letters of which the agent sees an event at the hour."""
    return sorted({number for number, event, coming in seen(post, run, agent, hour)})


def alike_runs(post, first, second, agent, hour):
    """Tell whether the agent sees the same in both runs at the hour."""
    return seen(post, first, agent, hour) == seen(post, second, agent, hour)
