"""Tables of the fuel that a ship can have, and that it needs, within a corridor."""

from fogfleet.drivings import first_fuel, fuel_after
from fogfleet.steps import step_table


def first_rich_row(chart, ship, zone):
    """Return the row of the rich table for hour 0."""
    row = [None] * chart.size
    for place in zone:
        row[place] = first_fuel(chart, ship, place)
    return row


def next_rich_row(chart, ship, zone, steps, row):
    """Return the row of the rich table for the hour after a row, whose zone is given."""
    found = [None] * chart.size
    for place, fuel in enumerate(row):
        if fuel is None:
            continue
        for goal, lanes in steps[place]:
            if lanes <= fuel and goal in zone:
                after = fuel_after(chart, ship, fuel, goal, lanes)
                if found[goal] is None or found[goal] < after:
                    found[goal] = after
    return found


def rich_rows(chart, ship, corridor, steps):
    """Return the rich table of the corridor; `steps` is the step table for its hours."""
    table = [first_rich_row(chart, ship, corridor[0])]
    for hour, zone in enumerate(corridor[1:]):
        table.append(next_rich_row(chart, ship, zone, steps[hour], table[-1]))
    return table


def rich_table(chart, ship, corridor):
    """Return the greatest fuel that the ship can have at each hour and place, or None."""
    return rich_rows(chart, ship, corridor, step_table(chart, ship, len(corridor) - 1))


def last_need_row(chart, zone):
    """Return the row of the need table for the last hour."""
    return [0 if place in zone else None for place in range(chart.size)]


def need_row_before(chart, ship, zone, steps, row):
    """Return the row of the need table for the hour before a row, whose zone is given."""
    found = [None] * chart.size
    for place in zone:
        for goal, lanes in steps[place]:
            if row[goal] is None:
                continue
            # A harbour fills the tank, so the step to it is all that the ship needs.
            need = lanes if chart.is_harbour(goal) else lanes + row[goal]
            if need <= ship.tank and (found[place] is None or need < found[place]):
                found[place] = need
    return found


def need_rows(chart, ship, corridor, steps):
    """Return the need table of the corridor; `steps` is the step table for its hours."""
    table = [last_need_row(chart, corridor[-1])]
    for hour in reversed(range(len(corridor) - 1)):
        table.append(need_row_before(chart, ship, corridor[hour], steps[hour], table[-1]))
    return table[::-1]


def need_table(chart, ship, corridor):
    """Return the least fuel that the ship needs at each hour and place, or None."""
    return need_rows(chart, ship, corridor, step_table(chart, ship, len(corridor) - 1))


def suffices(fuel, need):
    """Tell whether an item of a rich table is a number that covers that of a need table."""
    return fuel is not None and need is not None and fuel >= need


def covered_zones(rich, needs):
    """Return for each hour the zone of the places where the rich table covers the need table."""
    zones = []
    for fuels, row in zip(rich, needs):
        zones.append([place for place, fuel in enumerate(fuels) if suffices(fuel, row[place])])
    return zones


def possible_places(chart, ship, corridor):
    """Return for each hour the zone of the places of the fitting drivings."""
    return covered_zones(rich_table(chart, ship, corridor), need_table(chart, ship, corridor))
