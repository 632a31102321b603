"""Claims that name what a setting does not have."""

from fogfleet.agents import ship_number


def agent_exists(setting, agent):
    """Tell whether the agent is a keeper or a ship of the setting."""
    number = ship_number(agent)
    return number is None or number < len(setting.ships)


def places_exist(setting, zone):
    """Tell whether all places of the zone are on the chart."""
    return all([place < setting.chart.size for place in zone])


def ships_exist(setting, numbers):
    """Tell whether all ships with these numbers exist."""
    return all([number < len(setting.ships) for number in numbers])


def named_by_fact(setting, fact):
    """Return for each word of the fact that names something a tuple: its number, and whether it exists."""
    word = fact[0]
    if word in ("in", "out"):
        return [(2, ships_exist(setting, [fact[1]])), (4, places_exist(setting, fact[3])),
                (6, fact[2] <= setting.horizon)]
    if word == "together":
        return [(2, ships_exist(setting, fact[1:3])), (5, fact[3] <= setting.horizon)]
    if word == "apart":
        return [(2, ships_exist(setting, fact[1:3]))]
    if word == "holds":
        return [(1, agent_exists(setting, fact[1])), (5, fact[3] < len(setting.letters))]
    known = fact[1] < len(setting.letters)
    return [(2, known), (4, known and fact[2] <= len(setting.letters[fact[1]].hops))]


def first_unknown_word(setting, chain, fact):
    """Return the number of the first word of the claim that names what does not exist, or None."""
    for link, (agent, hour) in enumerate(chain):
        if not agent_exists(setting, agent):
            return 2 * link + 1
    for word, exists in named_by_fact(setting, fact):
        if not exists:
            return 2 * len(chain) + word
    return None
