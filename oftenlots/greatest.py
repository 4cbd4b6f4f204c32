"""The greatest often lots, and the crossings that lead from them to the border and back."""

from oftenlots.levels import often
from oftenlots.lots import all_lots, has_any, least_among, lies_in_any, lot_of, things_lacking, with_thing


def greatest(book, least):
    rows = often(book, least)
    listed = dict(rows)
    return [row for row in rows if not leads_to_listed(book[0], row[0], listed)]


# Within a greater often lot lies one of just one thing more, and that one is often too.
def leads_to_listed(many, lot, listed):
    return any([with_thing(lot, thing) in listed for thing in things_lacking(many, lot)])


def crossings(many, lots):
    return least_among([lot for lot in all_lots(many) if crosses_all(lot, lots)])


def crosses_all(lot, others):
    return all([(lot & other) > 0 for other in others])


def outside(many, lot):
    return lot_of(things_lacking(many, lot))


def part_all(many, great, small):
    for lot in all_lots(many):
        if lies_in_any(lot, great) == has_any(lot, small):
            return False
    return True
