"""Cells: what letters may say about a ship, for each place and amount of fuel.

A row of cells has one list for each place; this has one set of rows of
answers (see fogfleet/rows.py) for each amount of fuel from 0 to a full tank.
`gains` has for each place the row in which just those letters of an hour
answer True whose zone contains the place. No letter is answered twice on the
way, so an answer is given by shifting a set by the gain.
"""

from fogfleet.drivings import first_fuel


def gain_table(chart, letters, hours):
    """Return for each of so many hours the gains of the places."""
    table = [[0] * chart.size for _ in range(hours)]
    for number, letter in enumerate(letters):
        for place in letter.zone:
            table[letter.hour][place] += 1 << number
    return table


def gained(cells, gains):
    """Return the cells with the answers of their own hour."""
    return [[rows << gain for rows in row] for row, gain in zip(cells, gains)]


def joined(first, second):
    """Return for each fuel the rows that belong to one of the sets."""
    return [rows | other for rows, other in zip(first, second)]


def before_step(chart, ship, goal, lanes, row):
    """Return what the row of the goal means for each fuel before a step to the goal."""
    if lanes > ship.tank:
        return [0] * (ship.tank + 1)
    rest = ship.tank + 1 - lanes
    return [0] * lanes + ([row[-1]] * rest if chart.is_harbour(goal) else row[:rest])


def after_step(chart, ship, goal, lanes, row):
    """Return what the row of a place means for each fuel after a step from it to the goal."""
    left = row[lanes:]
    if not chart.is_harbour(goal):
        return left + [0] * (ship.tank + 1 - len(left))
    full = 0
    for rows in left:
        full |= rows
    return [0] * ship.tank + [full]


def cells_before(chart, ship, zone, steps, cells):
    """Return the cells of the later answers for the hour before; the zone and steps are its own.

    `cells` has the later answers together with those of its own hour.
    """
    found = [[0] * (ship.tank + 1) for _ in range(chart.size)]
    for place in zone:
        for goal, lanes in steps[place]:
            found[place] = joined(found[place], before_step(chart, ship, goal, lanes, cells[goal]))
    return found


def cells_after(chart, ship, zone, steps, cells):
    """Return the cells of the answers so far for the hour after, whose zone is given.

    The answers of that hour itself are not among them.
    """
    found = [[0] * (ship.tank + 1) for _ in range(chart.size)]
    for place, row in enumerate(cells):
        for goal, lanes in steps[place]:
            if goal in zone:
                found[goal] = joined(found[goal], after_step(chart, ship, goal, lanes, row))
    return found


def later_cells(chart, ship, corridor, steps, gains, last):
    """Return for each hour the cells of the answers after it, within the corridor.

    `last` has the cells of the last one of the hours.
    """
    table = [last]
    for hour in reversed(range(len(corridor) - 1)):
        after = gained(table[-1], gains[hour + 1])
        table.append(cells_before(chart, ship, corridor[hour], steps[hour], after))
    return table[::-1]


def first_cells(chart, ship, zone):
    """Return the cells of hour 0, before any answer."""
    cells = [[0] * (ship.tank + 1) for _ in range(chart.size)]
    for place in zone:
        cells[place][first_fuel(chart, ship, place)] = 1
    return cells


def reached_cells(chart, ship, corridor, steps, gains):
    """Return for each hour the cells of the answers up to it, its own included."""
    table = [gained(first_cells(chart, ship, corridor[0]), gains[0])]
    for hour, zone in enumerate(corridor[1:]):
        after = cells_after(chart, ship, zone, steps[hour], table[-1])
        table.append(gained(after, gains[hour + 1]))
    return table
