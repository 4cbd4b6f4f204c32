"""From a part of the baskets: which often lots of the book it tells, and how to go on from it to all of them."""

from oftenlots.levels import border, counted, often, often_among
from oftenlots.lots import all_lots, lots_of, one_thing_fewer


def part_of(book, places):
    return (book[0], [book[1][place] for place in places])


def from_part(book, least, places, lower):
    part = part_of(book, places)
    missed = often_among(book, least, lots_of(border(part, lower)))
    if len(missed) > 0:
        return ("missed", missed)
    # An often lot that the part does not tell would have a missed one within it.
    return ("whole", often_among(book, least, lots_of(often(part, lower))))


def gone_on(book, least, places, lower):
    part = part_of(book, places)
    counts = dict(counted(book, lots_of(often(part, lower)) + lots_of(border(part, lower))))
    rounds = 0
    more = lots_to_count(book[0], least, counts)
    while len(more) > 0:
        counts.update(dict(counted(book, more)))
        rounds = rounds + 1
        more = lots_to_count(book[0], least, counts)
    return (sorted([row for row in counts.items() if row[1] >= least]), rounds)


# The lots not counted yet of which each lot with one thing fewer is known to be often.
def lots_to_count(many, least, counts):
    told = []
    for lot in all_lots(many):
        if lot not in counts and all([counts.get(fewer, 0) >= least for fewer in one_thing_fewer(lot)]):
            told.append(lot)
    return told
