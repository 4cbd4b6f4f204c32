"""Columns: for a thing or a lot the number whose bit p is 1 where the basket at place p has it."""

from oftenlots.books import holders
from oftenlots.lots import lot_of, with_thing, without


def columns(book):
    return [column_of(book, with_thing(0, thing)) for thing in range(book[0])]


def column_of(book, lot):
    return lot_of(holders(book, lot))


def gone(book, least):
    found = often_columns(book, least)
    return [gone_row(found, lot) for lot in found if lot != 0]


def gone_row(found, lot):
    ahead = without_greatest(lot)
    return (lot, ahead, without(found[ahead], found[lot]))


def without_greatest(lot):
    return lot - (1 << (lot.bit_length() - 1))


def by_columns(book, least):
    found = often_columns(book, least)
    return [(lot, places_in(found[lot])) for lot in found]


# The columns of all often lots by their lots, rising: with each next thing come only greater lots than all ahead,
# in the order of those that it is put to.
def often_columns(book, least):
    found = {}
    keep_often(found, least, 0, column_of(book, 0))
    for thing, column in enumerate(columns(book)):
        for lot in list(found):
            keep_often(found, least, with_thing(lot, thing), found[lot] & column)
    return found


def keep_often(found, least, lot, column):
    if places_in(column) >= least:
        found[lot] = column


def places_in(column):
    places = 0
    rest = column
    while rest > 0:
        # Takes the lowest place out.
        rest = rest & (rest - 1)
        places = places + 1
    return places
