"""Bounds of the hours of events, given what an agent sees."""

from fogfleet.errors import NoRun
from fogfleet.runs import is_run, seen, spread


def ancestors(letter, event):
    """Return the events on the way from the event back to the writing, both included."""
    way = [event]
    while way[-1] != 0:
        way.append(letter.hops[way[-1] - 1][0])
    return way


def most_between(letter, first, second):
    """Return the greatest difference of the hour of the second event minus that of the first."""
    before = ancestors(letter, first)
    after = ancestors(letter, second)
    # What both ways share has the same hours for both events.
    longest = sum([letter.hops[event - 1][3] for event in after if event not in before])
    shortest = sum([letter.hops[event - 1][2] for event in before if event not in after])
    return longest - shortest


def latest_hours(letter, pins):
    """Return the greatest hours of the events; `pins` has the known hours by their events."""
    hours = spread(letter, [high for parent, agent, low, high in letter.hops])
    for event in pins:
        hours[event] = pins[event]
    for event, (parent, agent, low, high) in reversed(list(enumerate(letter.hops, start=1))):
        hours[parent] = min(hours[parent], hours[event] - low)
    for event, (parent, agent, low, high) in enumerate(letter.hops, start=1):
        hours[event] = min(hours[event], hours[parent] + high)
    return hours


def earliest_hours(letter, pins, agent, hour):
    """Return the least hours of the events, of which the agent sees only the pins at the hour."""
    hours = spread(letter, [low for parent, other, low, high in letter.hops])
    for event, least in enumerate(list(hours)):
        if event in pins:
            hours[event] = pins[event]
        elif letter.agent_of(event) == agent:
            hours[event] = max(least, hour + 1)
    for event, (parent, other, low, high) in reversed(list(enumerate(letter.hops, start=1))):
        hours[parent] = max(hours[parent], hours[event] - high)
    for event, (parent, other, low, high) in enumerate(letter.hops, start=1):
        hours[event] = max(hours[event], hours[parent] + low)
    return hours


def pins_of(post, comings):
    """Return for each letter a dict of the hours of the comings by their events."""
    pins = [{} for _ in post]
    for number, event, coming in comings:
        pins[number][event] = coming
    return pins


def latest_with(post, comings):
    """Return the run with the greatest hours in which the comings happen, if there is one."""
    return [latest_hours(letter, known) for letter, known in zip(post, pins_of(post, comings))]


def earliest_with(post, agent, hour, comings):
    """Return the run with the least hours in which the agent sees the comings, if there is one."""
    pins = pins_of(post, comings)
    return [earliest_hours(letter, known, agent, hour) for letter, known in zip(post, pins)]


def latest_alike(post, run, agent, hour):
    """Return the run with the greatest hours that is alike to the run for the agent."""
    return latest_with(post, seen(post, run, agent, hour))


def earliest_alike(post, run, agent, hour):
    """Return the run with the least hours that is alike to the run for the agent."""
    return earliest_with(post, agent, hour, seen(post, run, agent, hour))


def is_event(post, number, event):
    """Tell whether there is a letter with this number that has this event."""
    return 0 <= number < len(post) and 0 <= event <= len(post[number].hops)


def check_events(post, agent, comings):
    """Raise NoRun if one of the comings names an event that does not exist."""
    if not all([is_event(post, number, event) for number, event, coming in comings]):
        raise NoRun(agent)


def check_fit(post, run, agent, hour, comings):
    """Raise NoRun if this is no run in which the agent sees exactly the comings."""
    if not is_run(post, run) or seen(post, run, agent, hour) != list(comings):
        raise NoRun(agent)


def latest_fit(post, agent, hour, comings):
    """Return the run with the greatest hours in which the agent sees exactly the comings."""
    check_events(post, agent, comings)
    # If any run fits, these hours do, because none of them can be greater.
    run = latest_with(post, comings)
    check_fit(post, run, agent, hour, comings)
    return run


def earliest_fit(post, agent, hour, comings):
    """Return the run with the least hours in which the agent sees exactly the comings."""
    check_events(post, agent, comings)
    run = earliest_with(post, agent, hour, comings)
    check_fit(post, run, agent, hour, comings)
    return run


def binding(post, run, agent, hour, letter, event):
    """Return the source that bounds the hour of the event in latest_alike, and the bound."""
    sources = [0]
    for number, source, coming in seen(post, run, agent, hour):
        if number == letter:
            sources.append(source)
    bounds = []
    for source in sources:
        bounds.append((run[letter][source] + most_between(post[letter], source, event), source))
    bound, least = min(bounds)
    return (least, bound)
