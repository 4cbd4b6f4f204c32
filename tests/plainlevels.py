"""The document's words on levels, paths and columns over sets of things and written-out ways, slow and plain."""

from collections import Counter

import plain
from plain import count, fewer, holders, lots_of, number, things


def often(book, least):
    return [(lot, count(book, lot)) for lot in lots_of(book[0]) if count(book, lot) >= least]


def border(book, least):
    return [(lot, count(book, lot)) for lot in plain.least_rare(book, least)]


def levels(book, least):
    told = []
    for level in range(book[0] + 1):
        rows = [row for row in often(book, least) if len(things(row[0])) == level]
        if rows:
            told.append(rows)
    return told


def marks_fit(book, lot, marks):
    if len(marks) != len(book[1]):
        return False
    return all(mark == -1 if things(lot) <= things(basket) else mark in things(lot) - things(basket)
               for mark, basket in zip(marks, book[1]))


def whole_holds(book, least, paper):
    oftens, rares = ([row[0] for row in rows] for rows in paper)
    for lots in (oftens, rares):
        if lots != sorted(set(lots)) or not all(0 <= lot < 2 ** book[0] for lot in lots):
            return False
    if not all(marks_fit(book, lot, marks) for rows in paper for lot, marks in rows):
        return False
    if not all(marks.count(-1) >= least for lot, marks in paper[0]):
        return False
    if not all(marks.count(-1) < least for lot, marks in paper[1]):
        return False
    if 0 not in oftens + rares:
        return False
    for lot in oftens:
        for thing in set(range(book[0])) - things(lot):
            more = things(lot) | {thing}
            if number(more) not in oftens and not any(things(rare) <= more for rare in rares):
                return False
    return True


def ordered(ways, least):
    """The things of ways, each a set of things with how many times it stands there."""
    times = Counter()
    for way, often_it_is in ways:
        for thing in way:
            times[thing] += often_it_is
    return sorted([thing for thing in times if times[thing] >= least], key=lambda thing: (-times[thing], thing))


def tree_of_ways(ways, least):
    """A node is what a way begins with: told as it first comes up, counted over all ways at the end."""
    order = ordered(ways, least)
    rows = [(tuple(thing for thing in order if thing in way), often_it_is) for way, often_it_is in ways]
    begins = [()]
    for row, often_it_is in rows:
        begins += [row[:length] for length in range(1, len(row) + 1) if row[:length] not in begins]
    told = []
    for begin in begins:
        counted = sum(often_it_is for row, often_it_is in rows if row[:len(begin)] == begin)
        told.append((begins.index(begin[:-1]), begin[-1], counted) if begin else (-1, -1, counted))
    return told


def order(book, least):
    return ordered([(things(basket), 1) for basket in book[1]], least)


def tree_of(book, least):
    return tree_of_ways([(things(basket), 1) for basket in book[1]], least)


def way_to(tree, node):
    return set() if node == 0 else way_to(tree, tree[node][0]) | {tree[node][1]}


def cut_tree(tree, thing, least):
    ways = [(way_to(tree, node[0]), node[2]) for node in tree if node[1] == thing]
    return tree_of_ways(ways, least)


def ends(tree):
    told = []
    for place, node in enumerate(tree):
        ending = node[2] - sum(other[2] for other in tree if other[0] == place)
        if ending:
            told.append((number(way_to(tree, place)), ending))
    return sorted(told)


def baskets_without_rare_things(book, least):
    kept = Counter(number(things(basket) & set(order(book, least))) for basket in book[1])
    return sorted(kept.items())


def column_of(book, lot):
    return number(holders(book, lot))


def gone(book, least):
    told = []
    for lot, its in often(book, least):
        if lot:
            ahead = number(things(lot) - {max(things(lot))})
            told.append((lot, ahead, number(set(holders(book, ahead)) - set(holders(book, lot)))))
    return told
