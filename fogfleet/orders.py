"""Orders: what is asked of the hours of sailings.

Each sailing of a list is a tuple (low, high): the least and the greatest
number of hours that its leg takes.
"""

from fogfleet.errors import InvalidOrder

PAIR_WORDS = ("after", "with", "lands")
SINGLE_WORDS = ("by", "from", "gate", "bar")


def sailings_of(order):
    """Return the numbers of the sailings of an order whose word is right."""
    return list(order[1:3]) if order[0] in PAIR_WORDS else [order[1]]


def right_order(order, many):
    """Tell whether the order has a right word and different numbers below many."""
    if order[0] not in PAIR_WORDS + SINGLE_WORDS:
        return False
    numbers = sailings_of(order)
    return all([0 <= number < many for number in numbers]) and len(set(numbers)) == len(numbers)


def check_orders(sailings, orders):
    """Raise InvalidOrder if an order is wrong."""
    for index, order in enumerate(orders):
        if not right_order(order, len(sailings)):
            raise InvalidOrder(index)


def pair_holds(order, schedule, legs):
    """Tell whether an order about two sailings holds."""
    word, first, second, limit = order
    if word == "after":
        return schedule[second] >= schedule[first] + legs[first] + limit
    if word == "with":
        return schedule[second] <= schedule[first] + limit
    return schedule[second] + legs[second] <= schedule[first] + legs[first] + limit


def order_holds(order, schedule, legs):
    """Tell whether the order holds with this schedule and these legs."""
    if order[0] in PAIR_WORDS:
        return pair_holds(order, schedule, legs)
    word, number, bound = order
    leaves = schedule[number]
    lands = leaves + legs[number]
    if word == "by":
        return lands <= bound
    if word == "from":
        return leaves >= bound
    return (leaves if word == "gate" else lands) in bound


def broken(orders, schedule, legs):
    """Return the indexes of the orders that do not hold."""
    return [index for index, order in enumerate(orders) if not order_holds(order, schedule, legs)]


def hardest_legs(sailings, order):
    """Return lists of possible legs, with one of which the order does not hold if it does with any.

    Only the legs of the sailings of the order matter, and for most words it
    is plain which of them are the hardest; a bar asks for each of them.
    """
    lows = [low for low, high in sailings]
    number = sailings_of(order)[-1] if order[0] == "lands" else order[1]
    low, high = sailings[number]
    least = low if order[0] == "bar" else high
    return [lows[:number] + [last] + lows[number + 1:] for last in range(least, high + 1)]


def breaking_legs(sailings, orders, schedule):
    """Return the index of the first order that may not hold, with legs that break it, or None."""
    check_orders(sailings, orders)
    for index, order in enumerate(orders):
        for legs in hardest_legs(sailings, order):
            if not order_holds(order, schedule, legs):
                return (index, legs)
    return None
