"""How much must be disbelieved before a question can be answered with no, and why.

The helpers take `costs`, the weights of the unmet reports for each hour and
place, and `barred`, the places of an hour that are for the question.
"""

from fogfleet.drivings import fuel_after, next_states
from fogfleet.reports import corridor_of, unmet
from fogfleet.steps import step_table
from fogfleet.tables import rich_rows
from fogfleet.zones import narrowed


def cost_table(chart, horizon, reports, number):
    """Return for each hour and place the sum of the weights of the unmet reports."""
    table = [[0] * chart.size for _ in range(horizon + 1)]
    for report in reports:
        if report.ship != number or report.hour > horizon:
            continue
        for place in range(chart.size):
            if not report.allows(place):
                table[report.hour][place] += report.weight
    return table


def last_floors(chart, ship, costs, barred):
    """Return the floors of the last hour for each place and amount of fuel."""
    rows = []
    for place in range(chart.size):
        rows.append([None if place in barred else costs[place]] * (ship.tank + 1))
    return rows


def least_after(chart, ship, steps, fuel, floors):
    """Return the least floor after one of the steps that the fuel suffices for, or None."""
    found = []
    for goal, lanes in steps:
        if lanes <= fuel:
            found.append(floors[goal][fuel_after(chart, ship, fuel, goal, lanes)])
    return min([floor for floor in found if floor is not None], default=None)


def floors_before(chart, ship, costs, barred, steps, floors):
    """Return the floors of the hour before floors; costs, barred places and steps are its own."""
    rows = []
    for place in range(chart.size):
        row = [None] * (ship.tank + 1)
        for fuel in range(ship.tank + 1):
            least = least_after(chart, ship, steps[place], fuel, floors)
            if least is not None and place not in barred:
                row[fuel] = costs[place] + least
        rows.append(row)
    return rows


def floor_table(chart, ship, costs, hour, zone):
    """Return the floors of point 31 for each hour, place and amount of fuel."""
    steps = step_table(chart, ship, len(costs) - 1)
    barred = [zone if now == hour else [] for now in range(len(costs))]
    table = [last_floors(chart, ship, costs[-1], barred[-1])]
    for now in reversed(range(len(costs) - 1)):
        table.append(floors_before(chart, ship, costs[now], barred[now], steps[now], table[-1]))
    return table[::-1]


def least_cost(chart, ship, floors):
    """Return the least floor of a state in which the ship can begin, or None."""
    found = [floors[0][place][fuel] for place, fuel in next_states(chart, ship, [])]
    return min([floor for floor in found if floor is not None], default=None)


def cheapest_driving(chart, ship, costs, floors):
    """Return the first of the drivings whose cost is the least one."""
    states = []
    rest = least_cost(chart, ship, floors)
    for row, floor in zip(costs, floors):
        found = next_states(chart, ship, states)
        cheapest = [(place, fuel) for place, fuel in found if floor[place][fuel] == rest]
        states.append(cheapest[0])
        rest -= row[cheapest[0][0]]
    return [place for place, fuel in states]


def strength(chart, ship, horizon, reports, number, hour, zone):
    """Return the least cost of a driving against the question, with the proof, or None."""
    costs = cost_table(chart, horizon, reports, number)
    floors = floor_table(chart, ship, costs, hour, zone)
    cost = least_cost(chart, ship, floors)
    if cost is None:
        return None
    driving = cheapest_driving(chart, ship, costs, floors)
    return (cost, unmet(reports, number, driving), driving, floors)


def reason(chart, ship, horizon, reports, number, hour, zone):
    """Return indexes of reports that make the question certain, none of them idle, or None."""
    steps = step_table(chart, ship, horizon)

    def certain(indexes):
        """Tell whether no driving that meets these reports is against the question."""
        chosen = [reports[index] for index in indexes]
        corridor = narrowed(corridor_of(chart, horizon, chosen, number), hour, zone, False)
        last = rich_rows(chart, ship, corridor, steps)[-1]
        return not any([fuel is not None for fuel in last])

    kept = [index for index, report in enumerate(reports) if report.ship == number]
    if not certain(kept):
        return None
    for index in list(kept):
        rest = [other for other in kept if other != index]
        if certain(rest):
            kept = rest
    return kept
