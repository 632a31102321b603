"""Prospects: what the agents of a setting know, decided without listing worlds.

The run and the drivings of the ships vary independently. The succession of
the latest runs holds the fewest letters, so it leaves the drivings the most
freedom, and each combination of end drivings occurs with it.
"""

from fogfleet.agents import ship_number
from fogfleet.bounds import earliest_fit, latest_fit
from fogfleet.bundles import Answered, Begun, beginning_with
from fogfleet.chains import earliest_chain, latest_chain
from fogfleet.errors import NoRun, NoWorld
from fogfleet.outcomes import Outcomes
from fogfleet.rows import agreeing
from fogfleet.runs import held
from fogfleet.worlds import RUN_FACTS, true_of_run
from fogfleet.zones import narrowed


def ships_of(fact):
    """Return the numbers of the ships of a fact about drivings."""
    return [fact[1]] if fact[0] in ("in", "out") else [fact[1], fact[2]]


def breaking_spots(fact, zones):
    """Return a tuple (hour, place) for each ship of the fact, which make it false, or None.

    `zones` has the zones of each ship of the fact; their places occur together.
    """
    if fact[0] in ("in", "out"):
        word, ship, hour, zone = fact
        places = [place for place in zones[0][hour] if (place in zone) == (word == "out")]
        return [(hour, places[0])] if places else None
    if fact[0] == "together":
        hour = fact[3]
        for place in zones[0][hour]:
            for other in zones[1][hour]:
                if place != other:
                    return [(hour, place), (hour, other)]
        return None
    for hour, places in enumerate(zones[0]):
        for place in places:
            if place in zones[1][hour]:
                return [(hour, place), (hour, place)]
    return None


def right_form(setting, view):
    """Tell whether the told letters and the own places of a view have the right numbers."""
    agent, hour, comings, told, own = view
    letters = sorted({letter for letter, event, coming in comings})
    if [letter for letter, flags in told] != letters:
        return False
    if not all([len(flags) == len(setting.ships) for letter, flags in told]):
        return False
    if ship_number(agent) is None or own is None:
        return ship_number(agent) is None and own is None
    return len(own) == min(hour, setting.horizon) + 1


class Prospects:
    """The prospects in a setting; the outcomes of a ship are worked out only once."""

    def __init__(self, setting):
        self.setting = setting
        self._outcomes = {}

    def outcomes_of(self, number):
        """Return the outcomes of the ship with this number."""
        if number not in self._outcomes:
            self._outcomes[number] = Outcomes(self.setting, number)
        return self._outcomes[number]

    def first_bundle(self, view, number):
        """Return the bundle of the drivings of a ship that agree with a view of right form."""
        agent, hour, comings, told, own = view
        outcomes = self.outcomes_of(number)
        if ship_number(agent) == number:
            return Begun(outcomes, own)
        flags = [(letter, row[number]) for letter, row in told]
        return Answered(outcomes, agreeing(outcomes.all_rows(), outcomes.trues, flags), outcomes.horizon)

    def check(self, view):
        """Raise NoWorld if no world fits the view."""
        agent, hour, comings, told, own = view
        try:
            latest_fit(self.setting.letters, agent, hour, comings)
        except NoRun:
            raise NoWorld(agent) from None
        if not right_form(self.setting, view):
            raise NoWorld(agent)
        for number in range(len(self.setting.ships)):
            rows = self.first_bundle(view, number).rows()
            flags = [(letter, row[number]) for letter, row in told]
            if not agreeing(rows, self.outcomes_of(number).trues, flags):
                raise NoWorld(agent)

    def runs(self, view, chain, latest):
        """Return the latest or the earliest runs of the successions for the view and the chain."""
        agent, hour, comings, told, own = view
        letters = self.setting.letters
        if latest:
            first = latest_fit(letters, agent, hour, comings)
            return [first] + latest_chain(letters, first, chain)
        first = earliest_fit(letters, agent, hour, comings)
        return [first] + earliest_chain(letters, first, chain)

    def links(self, view, chain):
        """Return for each link the number of its ship, or None, its hour and the held letters."""
        found = []
        for (agent, hour), run in zip(chain, self.runs(view, chain, True)):
            letters = held(self.setting.letters, run, agent, hour)
            found.append((ship_number(agent), hour, letters))
        return found

    def bundles(self, view, links, number):
        """Return the bundles of a ship at the beginning and after each link."""
        found = [self.first_bundle(view, number)]
        for mover, hour, letters in links:
            if mover == number:
                found.append(found[-1].after_own(hour))
            else:
                found.append(found[-1].after_other(letters))
        return found

    def last_bundle(self, view, chain, number):
        """Return the bundle of a ship at the end of the chain."""
        return self.bundles(view, self.links(view, chain), number)[-1]

    def sure(self, view, chain, fact):
        """Tell whether the fact is true at the end of every succession."""
        if fact[0] in RUN_FACTS:
            run = self.runs(view, chain, fact[0] != "from")[-1]
            return true_of_run(self.setting.letters, run, fact)
        links = self.links(view, chain)
        ends = [self.bundles(view, links, number)[-1] for number in ships_of(fact)]
        return breaking_spots(fact, [bundle.zones() for bundle in ends]) is None

    def counter(self, view, chain, fact):
        """Return a succession of worlds at whose end the fact is false, or None."""
        if fact[0] in RUN_FACTS:
            runs = self.runs(view, chain, fact[0] != "from")
            if true_of_run(self.setting.letters, runs[-1], fact):
                return None
            return self.worlds(view, runs, {})
        links = self.links(view, chain)
        numbers = ships_of(fact)
        bundles = [self.bundles(view, links, number) for number in numbers]
        spots = breaking_spots(fact, [row[-1].zones() for row in bundles])
        if spots is None:
            return None
        moved = {}
        for number, row, (hour, place) in zip(numbers, bundles, spots):
            corridor = narrowed(self.outcomes_of(number).allowed, hour, [place], True)
            moved[number] = self.drivings_back(number, row, links, corridor)
        return self.worlds(view, self.runs(view, chain, True), moved)

    def drivings_back(self, number, bundles, links, corridor):
        """Return a succession of drivings of a ship whose last one fits the narrower corridor."""
        found = [bundles[-1].one_within(corridor)]
        for bundle, link in reversed(list(zip(bundles, links))):
            found.append(bundle.one_within(self.corridor_alike(number, link, found[-1])))
        return found[::-1]

    def corridor_alike(self, number, link, driving):
        """Return the corridor of the drivings of a ship that are alike to this one for a link."""
        mover, hour, letters = link
        corridor = self.outcomes_of(number).allowed
        if mover == number:
            return beginning_with(corridor, driving[:hour + 1])
        for letter in [self.setting.letters[index] for index in letters]:
            inside = driving[letter.hour] in letter.zone
            corridor = narrowed(corridor, letter.hour, letter.zone, inside)
        return corridor

    def worlds(self, view, runs, moved):
        """Return the worlds of a succession with these runs.

        `moved` has for some ships a driving for each run; the other ships
        keep the driving that they have at the beginning.
        """
        rows = []
        for number in range(len(self.setting.ships)):
            if number in moved:
                rows.append(moved[number])
            else:
                driving = self.first_bundle(view, number).one_within(self.outcomes_of(number).allowed)
                rows.append([list(driving) for _ in runs])
        return [([row[at] for row in rows], run) for at, run in enumerate(runs)]
