"""Agents: keepers on land and ships at sea."""

KEEPERS = ("k0", "k1", "k2", "k3", "k4", "k5", "k6", "k7", "k8", "k9")
SHIPS = ("s0", "s1", "s2", "s3")


def is_keeper(word):
    """Tell whether the word is a keeper."""
    return word in KEEPERS


def is_agent(word):
    """Tell whether the word is a keeper or a ship."""
    return word in KEEPERS or word in SHIPS


def ship_number(agent):
    """Return the number of the ship that the agent is, or None for a keeper."""
    return SHIPS.index(agent) if agent in SHIPS else None
