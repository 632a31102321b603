"""Letters: look-outs of keepers, and the hops by which copies of them go."""

from fogfleet.agents import is_agent, is_keeper
from fogfleet.errors import InvalidLetter
from fogfleet.limits import GREATEST_HOUR, MOST_HOPS, MOST_PLACES
from fogfleet.zones import right_zone

LONGEST_HOP = 6


def right_hop(hop, event):
    """Tell whether the hop that comes as this event is right."""
    parent, agent, low, high = hop
    return 0 <= parent < event and is_agent(agent) and 0 <= low <= high <= LONGEST_HOP


def right_hops(hops):
    """Tell whether there are at most 6 hops, and all of them are right."""
    if len(hops) > MOST_HOPS:
        return False
    return all([right_hop(hop, event) for event, hop in enumerate(hops, start=1)])


def wrong_part_of_letter(hour, zone, writer, hops):
    """Return the name of the first part of a letter that is wrong, or None."""
    if not 0 <= hour <= GREATEST_HOUR:
        return "hour"
    if not right_zone(zone, MOST_PLACES):
        return "zone"
    if not is_keeper(writer):
        return "writer"
    if not right_hops(hops):
        return "hops"
    return None


class Letter:
    """A letter, which never changes once it is made."""

    def __init__(self, hour, zone, writer, hops):
        part = wrong_part_of_letter(hour, zone, writer, hops)
        if part is not None:
            raise InvalidLetter(part)
        self.hour = hour
        self.zone = tuple(sorted(zone))
        self.writer = writer
        self.hops = tuple([tuple(hop) for hop in hops])

    def agent_of(self, event):
        """Return the agent at which the event takes place."""
        if event == 0:
            return self.writer
        parent, agent, low, high = self.hops[event - 1]
        return agent
