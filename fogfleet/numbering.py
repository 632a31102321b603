"""The numbers of the drivings that fit a corridor.

The helpers take rows of counts: one list for each place, with the number of
ways to go on from there for each amount of fuel.
"""

from fogfleet.drivings import fuel_after, next_states
from fogfleet.errors import DoesNotFit, NoSuchNumber
from fogfleet.steps import step_table


def last_count_row(chart, ship, zone):
    """Return the counts for the last hour."""
    row = []
    for place in range(chart.size):
        row.append([1 if place in zone else 0] * (ship.tank + 1))
    return row


def count_row_before(chart, ship, zone, steps, row):
    """Return the counts for the hour before a row; the zone is that of the hour before."""
    found = [[0] * (ship.tank + 1) for _ in range(chart.size)]
    for place in zone:
        for fuel in range(ship.tank + 1):
            for goal, lanes in steps[place]:
                if lanes <= fuel:
                    found[place][fuel] += row[goal][fuel_after(chart, ship, fuel, goal, lanes)]
    return found


def count_table(chart, ship, corridor):
    """Return the row of counts for each hour of the corridor."""
    steps = step_table(chart, ship, len(corridor) - 1)
    table = [last_count_row(chart, ship, corridor[-1])]
    for hour in reversed(range(len(corridor) - 1)):
        table.append(count_row_before(chart, ship, corridor[hour], steps[hour], table[-1]))
    return table[::-1]


def choices(chart, ship, row, states):
    """Return the states that can come next, each as a tuple with the ways to go on from there."""
    found = next_states(chart, ship, states)
    return [((place, fuel), row[place][fuel]) for place, fuel in found]


def total(chart, ship, counts):
    """Return how many drivings a table counts."""
    return sum([ways for state, ways in choices(chart, ship, counts[0], [])])


def count_drivings(chart, ship, corridor):
    """Return how many drivings fit the corridor."""
    return total(chart, ship, count_table(chart, ship, corridor))


def driving_at(chart, ship, corridor, number):
    """Return the driving that has the number among those that fit the corridor."""
    counts = count_table(chart, ship, corridor)
    if not 0 <= number < total(chart, ship, counts):
        raise NoSuchNumber(number)
    states = []
    rest = number
    for row in counts:
        found = choices(chart, ship, row, states)
        at = 0
        while rest >= found[at][1]:
            rest -= found[at][1]
            at += 1
        states.append(found[at][0])
    return [place for place, fuel in states]


def number_of(chart, ship, corridor, driving):
    """Return the number of a driving among those that fit the corridor."""
    states = []
    number = 0
    for hour, row in enumerate(count_table(chart, ship, corridor)):
        if hour == len(driving):
            raise DoesNotFit(hour)
        found = choices(chart, ship, row, states)
        chosen = [state for state, ways in found if state[0] == driving[hour] and ways > 0]
        if not chosen:
            raise DoesNotFit(hour)
        number += sum([ways for state, ways in found if state[0] < driving[hour]])
        states.append(chosen[0])
    if len(driving) > len(corridor):
        raise DoesNotFit(len(corridor))
    return number
