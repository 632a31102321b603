"""Rows of answers and sets of rows, both written as numbers.

A row has the answers of all letters about one ship: bit k of its number is 1
if the answer of letter k is True. Bit n of the number of a set is 1 if row n
belongs to it. So a shift changes an answer in all rows of a set at once, and
the rows that two sets have in common are found by a single `&`.
"""


def true_sets(many):
    """Return for each of so many letters the set of all rows in which its answer is True."""
    rows = range(1 << many)
    return [sum([1 << row for row in rows if row >> letter & 1]) for letter in range(many)]


def members(rows):
    """Return the ascending list of the rows of a set."""
    return [row for row in range(rows.bit_length()) if rows >> row & 1]


def has_row(rows, row):
    """Tell whether the number is that of a row of the set."""
    return row >= 0 and rows >> row & 1 == 1


def agreeing(rows, trues, told):
    """Return the rows of the set that have these answers, given as tuples (letter, flag)."""
    for letter, flag in told:
        rows &= trues[letter] if flag else ~trues[letter]
    return rows


def widened(rows, trues, letters):
    """Return all rows that have in these letters the same answers as one of the set."""
    for letter, true in enumerate(trues):
        if letter not in letters:
            shift = 1 << letter
            rows |= (rows & true) >> shift | (rows & ~true) << shift
    return rows
