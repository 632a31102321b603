"""The steps of a ship at all hours of a corridor."""

from fogfleet.ships import moves


def step_table(chart, ship, hours):
    """Return for each of so many hours from 0 on, and for each place, the moves from there."""
    # The water repeats with the tide, and so do the moves.
    turn = len(chart.tide)
    rows = []
    for hour in range(min(hours, turn)):
        rows.append([moves(chart, ship, hour, place) for place in range(chart.size)])
    return [rows[hour % turn] for hour in range(hours)]
