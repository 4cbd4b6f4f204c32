"""The document's words on greatest lots, rooms, dealings and two books apart, slow and plain."""

from collections import Counter
from fractions import Fraction
from itertools import combinations, combinations_with_replacement, product

import plainlevels
from plain import count, fewer, lots_of, number, things


def greatest(book, least):
    rows = plainlevels.often(book, least)
    return [row for row in rows if not any(things(row[0]) < things(other[0]) for other in rows)]


def crossings(many, lots):
    crossing = [lot for lot in lots_of(many) if all(things(lot) & things(other) for other in lots)]
    return [lot for lot in crossing if not any(things(other) < things(lot) for other in crossing)]


def outside(many, lot):
    return number(set(range(many)) - things(lot))


def part_all(many, great, small):
    return all(any(things(lot) <= things(one) for one in great) != any(things(one) <= things(lot) for one in small)
               for lot in lots_of(many))


def lots_within(lot):
    own = sorted(things(lot))
    return sorted(number(some) for size in range(len(own) + 1) for some in combinations(own, size))


def lesser_counts(baskets, lot):
    return [(part, sum(things(part) <= things(basket) for basket in baskets)) for part in lots_within(lot)[:-1]]


def all_rooms(lot, most_baskets):
    """By lesser counts, of all books of so many baskets within the lot: the baskets of each by the lot's count."""
    told = {}
    for size in range(most_baskets + 1):
        for baskets in combinations_with_replacement(lots_within(lot), size):
            own = baskets.count(lot)
            told.setdefault(tuple(lesser_counts(baskets, lot)), {}).setdefault(own, []).append(list(baskets))
    return told


def sums(lot, counts):
    """By each lot within the lot but itself: the sum, and True where it is from above."""
    told = {}
    for part in lots_within(lot)[:-1]:
        total = 0
        for other, its in counts:
            if things(part) <= things(other):
                total += its if len(things(lot) - things(other)) % 2 else -its
        told[part] = (total, len(things(lot) - things(part)) % 2 == 1)
    return told


def room(lot, counts):
    told = sums(lot, counts).values()
    low = max([0] + [total for total, from_above in told if not from_above])
    high = min(total for total, from_above in told if from_above)
    return (low, high) if low <= high else None


def ends_of_room(lot, counts):
    space = room(lot, counts)
    if space is None:
        return None
    told = sorted(sums(lot, counts).items())
    lowest = [part for part, (total, from_above) in told if not from_above and total == space[0]]
    highest = [part for part, (total, from_above) in told if from_above and total == space[1]]
    return ((lowest + [-1])[0], highest[0])


def settled(book, lot):
    if lot == 0:
        return False
    space = room(lot, lesser_counts(book[1], lot))
    return space[0] == space[1]


def open_lots(book, least):
    return [row for row in plainlevels.often(book, least) if not settled(book, row[0])]


def shares(n, counts):
    """Of all ways to deal: by how many baskets get all, for each number from 0 to the least of the counts."""
    ways = list(product(*[[frozenset(some) for some in combinations(range(n), its)] for its in counts]))
    met = Counter(len(frozenset.intersection(*way)) for way in ways)
    return [Fraction(met[t], len(ways)) for t in range(min(counts) + 1)]


def pair(fraction):
    return (fraction.numerator, fraction.denominator)


def together(n, counts):
    return [pair(its) for its in shares(n, counts)]


def surprise(book, lot):
    counts = [count(book, 2 ** thing) for thing in sorted(things(lot))]
    return sum(shares(len(book[1]), counts)[count(book, lot):], Fraction(0))


def parts(one, other, lot):
    return any(things(lot) <= things(basket) for basket in one[1]) and count(other, lot) == 0


def least_parting(one, other):
    parting = [lot for lot in lots_of(one[0]) if parts(one, other, lot)]
    return [(lot, count(one, lot)) for lot in parting if not any(things(less) < things(lot) for less in parting)]


def is_basket(book, place, lot):
    return place in range(len(book[1])) and things(lot) <= things(book[1][place])


def row_fits(one, other, row):
    lot, place, marks, backs = row
    if not 0 <= lot < 2 ** one[0] or not is_basket(one, place, lot):
        return False
    if len(marks) != len(other[1]) or len(backs) != len(things(lot)):
        return False
    if not all(mark in things(lot) - things(basket) for mark, basket in zip(marks, other[1])):
        return False
    return all(is_basket(other, back, number(things(lot) - {thing})) for back, thing in zip(backs, sorted(things(lot))))


def parting_holds(one, other, paper):
    rows, leads = paper
    lots = [row[0] for row in rows]
    if lots != sorted(set(lots)) or not all(row_fits(one, other, row) for row in rows):
        return False
    if len(leads) != len(one[1]):
        return False
    for basket, (word, place) in zip(one[1], leads):
        by = word == "by" and place in range(len(rows)) and things(lots[place]) <= things(basket)
        if not by and not (word == "in" and is_basket(other, place, basket)):
            return False
    return True


def least_ones(lots):
    """The least ones of any lots, told another way: those of which no lot with a thing fewer has one within it."""
    return sorted(lot for lot in set(lots)
                  if not any(things(other) <= things(part) for part in fewer(lot) for other in lots))
