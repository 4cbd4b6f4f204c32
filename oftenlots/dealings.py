"""Dealings: how likely it is that so many baskets get all things of a lot, were each thing's holders dealt anew."""

from oftenlots.books import count
from oftenlots.lots import things_in, with_thing
from oftenlots.rules import lowest_terms


def together(n, counts):
    ways = just_ways(n, counts)
    return [lowest_terms(its, sum(ways)) for its in ways]


# For each t, from 0 on, in how many ways of all just t baskets get all of the things.
def just_ways(n, counts):
    choices = choice_rows(n)
    chosen = [ways_to_choose(choices, n, counts, size) for size in range(min(counts) + 1)]
    return [ways_of_just(choices, chosen, t) for t in range(len(chosen))]


# In row n at place k: in how many ways k of n are chosen.
def choice_rows(n):
    rows = [[1]]
    while len(rows) <= n:
        last = rows[-1]
        rows.append([1] + [one + other for one, other in zip(last, last[1:])] + [1])
    return rows


# Over all choices of so many baskets: the ways in which each of these gets all of the things.
def ways_to_choose(choices, n, counts, size):
    ways = choices[n][size]
    for its in counts:
        ways = ways * choices[n - size][its - size]
    return ways


# A way in which more baskets get them all stands in chosen once for each choice among those: so it is taken out again.
def ways_of_just(choices, chosen, t):
    ways = 0
    for size in range(t, len(chosen)):
        its = chosen[size] * choices[size][t]
        ways = ways + its if (size - t) % 2 == 0 else ways - its
    return ways


def mean(n, counts):
    if n == 0:
        return (0, 1)
    top = 1
    # One time fewer than there are counts.
    bottom = 1
    for place, its in enumerate(counts):
        top = top * its
        bottom = bottom * n if place > 0 else bottom
    return lowest_terms(top, bottom)


def surprise(book, lot):
    ways = just_ways(len(book[1]), [count(book, with_thing(0, thing)) for thing in things_in(lot)])
    return lowest_terms(sum(ways[count(book, lot):]), sum(ways))


def by_surprise(book, lots):
    shares = {}
    common_bottom = 1
    for lot in lots:
        shares[lot] = surprise(book, lot)
        common_bottom = common_bottom * lowest_terms(shares[lot][1], common_bottom)[0]
    # Over one bottom for all, so that whole numbers are held against each other.
    return sorted(lots, key=lambda one: (shares[one][0] * (common_bottom // shares[one][1]), one))
