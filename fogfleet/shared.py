"""What some agents know in common at an hour: successions of any length.

The latest run of all successions holds the fewest letters, and it can be
reached while all drivings stay as they are. With this run each link leaves to
the drivings all that any link of the same agent does, so a succession may go
to this run first and then move one ship after the other.
"""

from fogfleet.agents import SHIPS
from fogfleet.bounds import earliest_alike, latest_alike
from fogfleet.bundles import Answered, Begun, driving_with
from fogfleet.outcomes import Outcomes
from fogfleet.prospects import breaking_spots, ships_of
from fogfleet.rows import members, widened
from fogfleet.runs import held
from fogfleet.worlds import RUN_FACTS, is_true, true_of_run
from fogfleet.zones import narrowed


def runs_to_end(post, run, agents, hour, alike):
    """Return the tuples (agent, run) of the links by which `alike` leads as far as it can."""
    links = []
    now = run
    before = None
    while now != before:
        before = now
        for agent in agents:
            after = alike(post, now, agent, hour)
            if after != now:
                links.append((agent, after))
                now = after
    return links


def rows_around(outcomes, row, links):
    """Return all rows to which the links lead, with the tuple (row, agent) by which each is reached.

    A link has an agent and the letters that it holds. The given row itself
    is reached by None.
    """
    every = outcomes.all_rows()
    found = {row: None}
    edge = [row]
    while edge:
        beyond = []
        for now in list(edge):
            for agent, letters in links:
                for other in members(widened(1 << now, outcomes.trues, letters) & every):
                    if other not in found:
                        found[other] = (now, agent)
                        beyond.append(other)
        edge = beyond
    return found


class Roaming:
    """The drivings of a ship that successions reach while the run stays the same.

    A link of another agent leaves more to the ship than its own one does, as
    the ship knows all that is told of it up to the hour. So its own link only
    counts if there is no other one.
    """

    def __init__(self, outcomes, driving, own_agent, hour, links):
        self.outcomes = outcomes
        self.own_agent = own_agent
        self.row = outcomes.row_of(driving)
        self.others = [link for link in links if link[0] != own_agent]
        self.around = rows_around(outcomes, self.row, self.others)
        if self.others:
            self.bundle = Answered(outcomes, sum([1 << row for row in self.around]), outcomes.horizon)
        else:
            self.bundle = Begun(outcomes, driving[:hour + 1])

    def moves_to(self, hour, place):
        """Return the tuples (agent, driving) of links to a driving that is at the place at the hour."""
        last = self.bundle.one_within(narrowed(self.outcomes.allowed, hour, [place], True))
        if not self.others:
            return [(self.own_agent, last)]
        row = self.outcomes.row_of(last)
        if row == self.row:
            return [(self.others[0][0], last)]
        moves = []
        while row != self.row:
            before, agent = self.around[row]
            moves.append((agent, driving_with(self.outcomes, row)))
            row = before
        return moves[:0:-1] + [(moves[0][0], last)]


class Common:
    """What some agents know in common at an hour in a world."""

    def __init__(self, setting, world, agents, hour):
        self.setting = setting
        self.drivings, self.run = world
        self.agents = agents
        self.hour = hour

    def run_links(self, latest):
        """Return the tuples (agent, run) of the links to the latest or the earliest run."""
        alike = latest_alike if latest else earliest_alike
        return runs_to_end(self.setting.letters, self.run, self.agents, self.hour, alike)

    def roaming(self, number, run):
        """Return how the ship with this number can move in the run."""
        links = [(agent, held(self.setting.letters, run, agent, self.hour)) for agent in self.agents]
        return Roaming(Outcomes(self.setting, number), self.drivings[number], SHIPS[number], self.hour, links)

    def breaking_moves(self, run, fact):
        """Return the tuples (agent, number, driving) of links that make the fact false, or None."""
        numbers = ships_of(fact)
        ships = [self.roaming(number, run) for number in numbers]
        spots = breaking_spots(fact, [ship.bundle.zones() for ship in ships])
        if spots is None:
            return None
        moves = []
        for number, ship, (hour, place) in zip(numbers, ships, spots):
            moves.extend([(agent, number, driving) for agent, driving in ship.moves_to(hour, place)])
        return moves

    def breaking_links(self, fact):
        """Return the links that change the run and then those of the drivings to make the fact false.

        Return None if the fact is true at the end of all successions.
        """
        if not is_true(self.setting, (self.drivings, self.run), fact):
            return ([], [])
        if not self.agents:
            return None
        runs = self.run_links(fact[0] != "from")
        last = runs[-1][1] if runs else self.run
        if fact[0] in RUN_FACTS:
            return None if true_of_run(self.setting.letters, last, fact) else (runs, [])
        moves = self.breaking_moves(last, fact)
        return None if moves is None else (runs, moves)

    def succession(self, runs, moves):
        """Return the worlds of the succession with these links."""
        drivings = self.drivings
        run = self.run
        found = [copied(drivings, run)]
        for agent, after in runs:
            run = after
            found.append(copied(drivings, run))
        for agent, number, driving in moves:
            drivings = drivings[:number] + [driving] + drivings[number + 1:]
            found.append(copied(drivings, run))
        return found


def copied(drivings, run):
    """Return a world of new lists."""
    return ([list(driving) for driving in drivings], [list(hours) for hours in run])


def commonly(setting, world, agents, hour, fact):
    """Tell whether the fact is true at the end of all successions of any length from the world."""
    return Common(setting, world, agents, hour).breaking_links(fact) is None


def common_counter(setting, world, agents, hour, fact):
    """Return the steps and the worlds of a succession that makes the fact false, or None."""
    common = Common(setting, world, agents, hour)
    found = common.breaking_links(fact)
    if found is None:
        return None
    runs, moves = found
    steps = [agent for agent, run in runs] + [agent for agent, number, driving in moves]
    return (steps, common.succession(runs, moves))
