"""The harbour: when ships lie there, and berths for them."""

from fogfleet.errors import InvalidStay


def lying_spans(sailings, schedule, stays):
    """Return the first and the last hour at which the ship of each stay can lie in the harbour."""
    spans = []
    for index, (arriving, leaving) in enumerate(stays):
        first = schedule[arriving] + sailings[arriving][0]
        if schedule[leaving] < first:
            raise InvalidStay(index)
        spans.append((first, schedule[leaving]))
    return spans


def present(schedule, legs, stays, hour):
    """Return the indexes of the stays whose ship lies in the harbour at the hour."""
    found = []
    for index, (arriving, leaving) in enumerate(stays):
        if schedule[arriving] + legs[arriving] <= hour <= schedule[leaving]:
            found.append(index)
    return found


def overlap(span, other):
    """Tell whether the spans have an hour in common."""
    return span[0] <= other[1] and other[0] <= span[1]


def least_free(taken):
    """Return the least number that is not taken."""
    number = 0
    while number in taken:
        number += 1
    return number


def berth_numbers(spans):
    """Return the number of the berth of each span."""
    numbers = [None] * len(spans)
    for first, index in sorted([(span[0], index) for index, span in enumerate(spans)]):
        taken = [number for span, number in zip(spans, numbers)
                 if number is not None and overlap(span, spans[index])]
        numbers[index] = least_free(taken)
    return numbers


def first_hour_of(spans, count):
    """Return the least hour that belongs to so many of the spans, or None."""
    for hour in sorted([first for first, last in spans]):
        if len([first for first, last in spans if first <= hour <= last]) == count:
            return hour
    return None


def berths(spans):
    """Return how many berths the spans need, the berth of each, and an hour that needs all of them."""
    numbers = berth_numbers(spans)
    count = max(numbers, default=-1) + 1
    return (count, numbers, first_hour_of(spans, count))
