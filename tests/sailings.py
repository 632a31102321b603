"""Small sailings with orders, for the tests of orders and schedules."""

import itertools
import random

from fogfleet.gates import Gate

WORDS = ["after", "with", "lands", "by", "from", "gate", "bar"]


def slow_holds(order, schedule, legs):
    """Point 64, word by word."""
    x, d = schedule, legs
    word, i = order[0], order[1]
    if word in ("after", "with", "lands"):
        j, number = order[2], order[3]
        return {"after": x[j] >= x[i] + d[i] + number,
                "with": x[j] <= x[i] + number,
                "lands": x[j] + d[j] <= x[i] + d[i] + number}[word]
    if word in ("gate", "bar"):
        return (x[i] if word == "gate" else x[i] + d[i]) in order[2].hours
    return {"by": x[i] + d[i] <= order[2], "from": x[i] >= order[2]}[word]


def all_legs(sailings):
    """All possible legs."""
    return [list(legs) for legs in itertools.product(*[range(low, high + 1) for low, high in sailings])]


def keeps(orders, sailings, schedule):
    """Whether all orders hold for all possible legs."""
    return all(slow_holds(order, schedule, legs) for legs in all_legs(sailings) for order in orders)


def random_order(dice, many, reach=6):
    word = dice.choice(WORDS if many > 1 else WORDS[3:])
    if word in WORDS[:3]:
        first, second = dice.sample(range(many), 2)
        return (word, first, second, dice.randint(-3, 3))
    number = dice.randrange(many)
    if word in ("gate", "bar"):
        hours = [hour for hour in range(reach + 4) if dice.random() < 0.6]
        dice.shuffle(hours)
        return (word, number, Gate(hours))
    return (word, number, dice.randint(0, reach) + (2 if word == "by" else 0))


def random_sailings(seed, most=3):
    """Sailings and orders that are the same for the same seed."""
    dice = random.Random(seed)
    sailings = []
    for _ in range(dice.randint(1, most)):
        low = dice.randint(0, 2)
        sailings.append((low, low + dice.choice([0, 1, 2])))
    orders = [random_order(dice, len(sailings)) for _ in range(dice.randint(0, 4))]
    return sailings, orders


def wrong_orders(many):
    """Orders that are wrong among so many sailings."""
    gate = Gate([0])
    found = [("before", 0, 1, 0), ("After", 0, 1, 0), ("", 0, 0), ("by ", 0, 3), ("until", 0, 3), ("gates", 0, gate)]
    for number in (-1, -2, many, many + 5, 10 ** 39):
        found += [(word, number, 1, 0) for word in WORDS[:3]] + [(word, 1, number, 0) for word in WORDS[:3]]
        found += [("by", number, 3), ("from", number, 0), ("gate", number, gate), ("bar", number, gate)]
    return found + [(word, number, number, 0) for word in WORDS[:3] for number in (0, 1, -1, many)]
