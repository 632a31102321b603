"""Drivings: where a ship is at each hour, and the fuel that it has there."""

from fogfleet.ships import moves, step_lanes


def first_fuel(chart, ship, place):
    """Return the fuel of a ship that is at the place at hour 0."""
    return ship.tank if chart.is_harbour(place) else ship.fuel


def fuel_after(chart, ship, fuel, goal, lanes):
    """Return the fuel that is left after a step to the goal for which it suffices."""
    return ship.tank if chart.is_harbour(goal) else fuel - lanes


def fuel_along(chart, ship, driving):
    """Return the fuel at each hour of the driving, or None if a step is not possible."""
    fuels = [first_fuel(chart, ship, place) for place in driving[:1]]
    for hour in range(len(driving) - 1):
        goal = driving[hour + 1]
        lanes = step_lanes(chart, ship, hour, driving[hour], goal)
        if lanes is None or lanes > fuels[-1]:
            return None
        fuels.append(fuel_after(chart, ship, fuels[-1], goal, lanes))
    return fuels


def fits(chart, ship, corridor, driving):
    """Tell whether the driving fits the corridor."""
    if len(driving) != len(corridor):
        return False
    if not all([place in zone for place, zone in zip(driving, corridor)]):
        return False
    return fuel_along(chart, ship, driving) is not None


def next_states(chart, ship, states):
    """Return the states that can come next, in ascending order of their places.

    A state is a tuple (place, fuel), and `states` has one for each hour so far.
    No corridor limits what comes next.
    """
    if not states:
        return [(place, first_fuel(chart, ship, place)) for place in range(chart.size)]
    place, fuel = states[-1]
    found = []
    for goal, lanes in moves(chart, ship, len(states) - 1, place):
        if lanes <= fuel:
            found.append((goal, fuel_after(chart, ship, fuel, goal, lanes)))
    return found
