"""Often lots level by level, the border of least rare lots, and a whole paper that shows that none is missing.

The lots of a level have as many things as there are levels ahead of it.
"""

from oftenlots.books import count
from oftenlots.lots import has, has_any, lots_rise, one_thing_fewer, things_in, things_lacking, with_thing, without


def often(book, least):
    told = []
    for level in levels(book, least):
        told.extend(level)
    return sorted(told)


def levels(book, least):
    told = []
    level = often_among(book, least, [0])
    while len(level) > 0:
        told.append(level)
        level = often_among(book, least, next_lots(book[0], level))
    return told


def border(book, least):
    told = rare_among(book, least, [0])
    for level in levels(book, least):
        told.extend(rare_among(book, least, next_lots(book[0], level)))
    return sorted(told)


def counted(book, lots):
    return [(lot, count(book, lot)) for lot in lots]


def often_among(book, least, lots):
    return [row for row in counted(book, lots) if row[1] >= least]


def rare_among(book, least, lots):
    return [row for row in counted(book, lots) if row[1] < least]


# The lots of one thing more of which each lot with one thing fewer is in the level: no other can be often.
def next_lots(many, level):
    listed = dict(level)
    told = []
    for lot in listed:
        # Only by things behind all of its own, so that each comes once.
        for thing in range(lot.bit_length(), many):
            more = with_thing(lot, thing)
            if all([fewer in listed for fewer in one_thing_fewer(more)]):
                told.append(more)
    return sorted(told)


def whole_paper(book, least):
    return (marked_rows(book, often(book, least)), marked_rows(book, border(book, least)))


def marked_rows(book, rows):
    return [(row[0], [mark_for(basket, row[0]) for basket in book[1]]) for row in rows]


def mark_for(basket, lot):
    return min(things_in(without(lot, basket)), default=-1)


def whole_holds(book, least, paper):
    # Ahead of all else: behind it every lot is one of the book's things, however great a number came.
    if not lots_rise(book[0], paper[0]) or not lots_rise(book[0], paper[1]):
        return False
    for row in paper[0]:
        if not marks_are_right(book, row) or row[1].count(-1) < least:
            return False
    for row in paper[1]:
        if not marks_are_right(book, row) or row[1].count(-1) >= least:
            return False
    return leads_on(book[0], dict(paper[0]), [row[0] for row in paper[1]])


def marks_are_right(book, row):
    if len(row[1]) != len(book[1]):
        return False
    for basket, mark in zip(book[1], row[1]):
        if not mark_is_right(basket, row[0], mark):
            return False
    return True


def mark_is_right(basket, lot, mark):
    if mark == -1:
        return has(basket, lot)
    return mark in things_in(without(lot, basket))


# From the empty lot on, thing by thing: so no often lot can be left out.
def leads_on(many, listed, rares):
    if 0 not in listed and 0 not in rares:
        return False
    for lot in listed:
        for thing in things_lacking(many, lot):
            more = with_thing(lot, thing)
            if more not in listed and not has_any(more, rares):
                return False
    return True
