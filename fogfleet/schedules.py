"""Schedules: the least hours of sailings that keep all orders whatever the legs take."""

from fogfleet.orders import check_orders


def opening(gate, hour, last):
    """Return the least hour of the gate that is not before this one, or the hour after the last."""
    opened = gate.first_from(hour)
    return last + 1 if opened is None else opened


def asked_of_pair(order, sailings, hours):
    """Return the sailing that an order about two sailings asks for an hour, and this hour."""
    word, first, second, limit = order
    if word == "after":
        return (second, hours[first] + sailings[first][1] + limit)
    if word == "with":
        return (first, hours[second] - limit)
    return (first, hours[second] + sailings[second][1] - sailings[first][0] - limit)


def asked(order, sailings, hours, last):
    """Return the sailing that the order asks for at least an hour, and this hour.

    A bar is asked with the gate that is shrunk by its legs.
    """
    if len(order) == 4:
        return asked_of_pair(order, sailings, hours)
    word, number, bound = order
    if word == "from":
        return (number, bound)
    if word == "by":
        late = hours[number] + sailings[number][1] > bound
        return (number, last + 1 if late else hours[number])
    return (number, opening(bound, hours[number], last))


def with_shrunk_gates(sailings, orders):
    """Return the orders with the shrunk gates of the bars in the place of their gates."""
    found = []
    for order in orders:
        if order[0] == "bar":
            low, high = sailings[order[1]]
            order = ("bar", order[1], order[2].shrunk(low, high))
        found.append(order)
    return found


def least_schedule(sailings, orders, last=48):
    """Return the least schedule that keeps all orders, or None, and the lifts that lead to it."""
    check_orders(sailings, orders)
    narrow = with_shrunk_gates(sailings, orders)
    hours = [0] * len(sailings)
    lifts = []
    before = -1
    while before < len(lifts):
        before = len(lifts)
        for index, order in enumerate(narrow):
            number, hour = asked(order, sailings, hours, last)
            if hour > hours[number]:
                lifts.append((number, hour, index))
                hours[number] = hour
                if hour > last:
                    return (None, lifts)
    return (hours, lifts)
