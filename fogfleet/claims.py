"""Claims: a chain of agents and a fact, written as one line."""

from fogfleet.agents import is_agent
from fogfleet.errors import BadClaim
from fogfleet.limits import MOST_HOPS, MOST_LETTERS, MOST_SHIPS
from fogfleet.words import GREATEST_NUMBER, number_of, zone_of, zone_word

MOST_LINKS = 6


def format_fact(fact):
    """Return the line of a fact."""
    word = fact[0]
    if word in ("in", "out"):
        return f"ship {fact[1]} {word} {zone_word(fact[3])} at {fact[2]}"
    if word == "together":
        return f"ships {fact[1]},{fact[2]} together at {fact[3]}"
    if word == "apart":
        return f"ships {fact[1]},{fact[2]} apart"
    if word == "holds":
        return f"{fact[1]} at {fact[2]} holds {fact[3]}"
    return f"letter {fact[1]} event {fact[2]} {word} {fact[3]}"


def format_claim(chain, fact):
    """Return the line of a chain and a fact."""
    return " ".join([f"{agent}@{hour} knows" for agent, hour in chain] + [format_fact(fact)])


def link_of(word):
    """Return the link that the word writes, or None."""
    agent, sign, hour = word.partition("@")
    number = number_of(hour, GREATEST_NUMBER)
    return None if number is None or not is_agent(agent) else (agent, number)


def ships_of_word(word):
    """Return the list of the two different ships that the word writes, or None."""
    ships = [number_of(part, MOST_SHIPS - 1) for part in word.split(",")]
    if len(ships) != 2 or None in ships or ships[0] == ships[1]:
        return None
    return ships


class Words:
    """The words of a line, which are taken one after the other."""

    def __init__(self, line):
        self.line = line.split(" ")
        self.taken = 0

    def take(self):
        """Return the next word."""
        self.taken += 1
        if self.taken > len(self.line):
            raise BadClaim(self.taken)
        return self.line[self.taken - 1]

    def checked(self, value):
        """Return what the last word was read as, unless it is None."""
        if value is None:
            raise BadClaim(self.taken)
        return value

    def take_one_of(self, choices):
        """Return the next word, which is one of the choices."""
        word = self.take()
        return self.checked(word if word in choices else None)

    def take_number(self, greatest):
        """Return the number that the next word writes."""
        return self.checked(number_of(self.take(), greatest))

    def take_hour_at(self):
        """Return the hour that the next two words write."""
        self.take_one_of(("at",))
        return self.take_number(GREATEST_NUMBER)

    def check_end(self):
        """Raise BadClaim if there is another word."""
        if self.taken < len(self.line):
            raise BadClaim(self.taken + 1)


def read_ship(words):
    """Return the fact of one ship; its first word is taken."""
    ship = words.take_number(MOST_SHIPS - 1)
    word = words.take_one_of(("in", "out"))
    zone = words.checked(zone_of(words.take()))
    return (word, ship, words.take_hour_at(), zone)


def read_ships(words):
    """Return the fact of two ships; its first word is taken."""
    first, second = words.checked(ships_of_word(words.take()))
    if words.take_one_of(("together", "apart")) == "apart":
        return ("apart", first, second)
    return ("together", first, second, words.take_hour_at())


def read_letter(words):
    """Return the fact of an event of a letter; its first word is taken."""
    letter = words.take_number(MOST_LETTERS - 1)
    words.take_one_of(("event",))
    event = words.take_number(MOST_HOPS)
    word = words.take_one_of(("by", "from"))
    return (word, letter, event, words.take_number(GREATEST_NUMBER))


def read_holds(words, agent):
    """Return the fact of an agent that holds a letter; its first word is taken."""
    hour = words.take_hour_at()
    words.take_one_of(("holds",))
    return ("holds", agent, hour, words.take_number(MOST_LETTERS - 1))


def read_fact(words, word):
    """Return the fact that begins with this word, which is taken."""
    if word == "ship":
        return read_ship(words)
    if word == "ships":
        return read_ships(words)
    if word == "letter":
        return read_letter(words)
    return read_holds(words, words.checked(word if is_agent(word) else None))


def parse_claim(line):
    """Return the chain and the fact whose claim the line is."""
    words = Words(line)
    chain = []
    word = words.take()
    while len(chain) < MOST_LINKS and link_of(word) is not None:
        chain.append(link_of(word))
        words.take_one_of(("knows",))
        word = words.take()
    fact = read_fact(words, word)
    words.check_end()
    return (chain, fact)
