"""Closed lots and their neighbours in a list of them, and the baskets that come back from all of them.

A list of closed lots holds tuples (lot, count), rising by lot: so what lies within a lot stands ahead of it.
"""

from oftenlots.books import closing
from oftenlots.lots import has, has_any, lies_in_any, lots_of


def above(closed, lot):
    told = []
    for other in lots_of(closed):
        if other != lot and has(other, lot) and not has_any(other, told):
            told.append(other)
    return told


def below(closed, lot):
    told = []
    for other in reversed(lots_of(closed)):
        if other != lot and has(lot, other) and not lies_in_any(other, told):
            told.append(other)
    return list(reversed(told))


def meet(one, other):
    return one & other


def join(book, one, other):
    return closing(book, one | other)


# Lot by lot the longest row that ends in it: were a listed lot between two of a row's lots,
# the row over that one would be longer, so each of them is above the one ahead of it.
def longest(closed):
    rows = []
    for lot in lots_of(closed):
        rows.append(longest_of([row for row in rows if has(lot, row[-1])]) + [lot])
    return longest_of(rows)


def longest_of(rows):
    return max(rows, key=len, default=[])


# From the greatest lot down: a basket that has a lot and is not just it is just one of the greater ones.
def just(closed):
    told = []
    for row in reversed(closed):
        many = row[1] - sum([other[1] for other in told if has(other[0], row[0])])
        if many > 0:
            told.append((row[0], many))
    return list(reversed(told))


def baskets_of(closed):
    told = []
    for row in just(closed):
        told.extend([row[0]] * row[1])
    return told
