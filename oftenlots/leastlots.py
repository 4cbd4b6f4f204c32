"""Least lots, the counts that come back from lists of lots, and the kins of closed lots."""

from oftenlots.books import closing, count
from oftenlots.lots import all_lots, has, has_any, lots_within, one_thing_fewer


def is_least(book, lot):
    own = count(book, lot)
    for fewer in one_thing_fewer(lot):
        if count(book, fewer) <= own:
            return False
    return True


def least_lots(book, lot):
    return [part for part in kin_lots(book, lot) if is_least(book, part)]


def all_least(book, least):
    return [(lot, count(book, lot)) for lot in all_lots(book[0]) if is_often_least(book, least, lot)]


def is_often_least(book, least, lot):
    return count(book, lot) >= least and is_least(book, lot)


def by_closed(closed, lot):
    return max([row[1] for row in closed if has(row[0], lot)], default=None)


def by_least(leasts, rares, lot):
    if has_any(lot, rares):
        return None
    return min([row[1] for row in leasts if has(lot, row[0])], default=None)


def kin(book, lot):
    return len(kin_lots(book, lot))


# A lot lies within its closing, so no other lots need be looked at.
def kin_lots(book, lot):
    return [part for part in lots_within(lot) if closing(book, part) == lot]
