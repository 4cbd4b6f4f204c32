"""The closed lots of a book that are often, the going that meets each once, and their paper."""

from oftenlots.books import common, count, holders
from oftenlots.lots import all_lots, lots_rise, things_below, things_lacking, with_thing


# The closing of a lot that is often, None of a rare one.
def often_closing(book, least, lot):
    places = holders(book, lot)
    if len(places) < least:
        return None
    return common(book, places)


def closed_lots(book, least):
    return [(lot, count(book, lot)) for lot in all_lots(book[0]) if often_closing(book, least, lot) == lot]


def going(book, least):
    first = often_closing(book, least, 0)
    if first is None:
        return []
    return [(first, first, -1)] + going_from(book, least, first, -1)


def going_from(book, least, lot, by):
    told = []
    for thing in things_lacking(book[0], lot):
        if thing > by:
            told.extend(going_by(book, least, lot, thing))
    return told


def going_by(book, least, lot, thing):
    come = often_closing(book, least, with_thing(lot, thing))
    if come is None:
        return []
    # What brings a lesser thing along is met on another way, by a lesser thing: so each is met once.
    if (come & things_below(thing)) != (lot & things_below(thing)):
        return []
    return [(come, lot, thing)] + going_from(book, least, come, thing)


def closed_paper(book, least):
    return [paper_row(book, least, row[0]) for row in closed_lots(book, least)]


def paper_row(book, least, lot):
    reasons = [reason_for(book, least, lot, thing) for thing in things_lacking(book[0], lot)]
    return (lot, count(book, lot), reasons)


def reason_for(book, least, lot, thing):
    places = holders(book, with_thing(lot, thing))
    if len(places) < least:
        return (thing, "rare", places)
    return (thing, "leads", common(book, places))


# Rows that are right, the first closing, and all that the rows lead to: no more is asked, as every
# closed lot that is often is come to from the first closing by things of its own, one by one.
def closed_holds(book, least, paper):
    # Ahead of all else: behind it every lot is one of the book's things, however great a number came.
    if not lots_rise(book[0], paper):
        return False
    for row in paper:
        if not row_is_right(book, least, row):
            return False
    return none_is_missing(book, least, paper)


def row_is_right(book, least, row):
    return often_closing(book, least, row[0]) == row[0] and row == paper_row(book, least, row[0])


def none_is_missing(book, least, paper):
    listed = {}
    for row in paper:
        listed[row[0]] = True
    first = often_closing(book, least, 0)
    if first is not None and first not in listed:
        return False
    for row in paper:
        for reason in row[2]:
            if reason[1] == "leads" and reason[2] not in listed:
                return False
    return True
