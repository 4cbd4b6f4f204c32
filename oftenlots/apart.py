"""Two books apart: the least lots that part one from the other, and a paper that shows them basket by basket."""

from oftenlots.books import count, holders
from oftenlots.levels import counted, mark_for, marks_are_right
from oftenlots.lots import all_lots, has, is_place, least_among, lots_rise, one_thing_fewer


def parts(one, other, lot):
    return count(one, lot) > 0 and count(other, lot) == 0


def least_parting(one, other):
    return counted(one, least_among([lot for lot in all_lots(one[0]) if parts(one, other, lot)]))


def parting_paper(one, other):
    rows = [parting_row(one, other, row[0]) for row in least_parting(one, other)]
    return (rows, [lead_for(rows, other, basket) for basket in one[1]])


def parting_row(one, other, lot):
    marks = [mark_for(basket, lot) for basket in other[1]]
    # As it is a least one, what it leaves without a thing does not part the books.
    backs = [holders(other, fewer)[0] for fewer in one_thing_fewer(lot)]
    return (lot, holders(one, lot)[0], marks, backs)


# A basket with no least parting lot within it does not part the books itself.
def lead_for(rows, other, basket):
    for place, row in enumerate(rows):
        if has(basket, row[0]):
            return ("by", place)
    return ("in", holders(other, basket)[0])


def parting_holds(one, other, paper):
    rows = paper[0]
    leads = paper[1]
    # Ahead of all else: behind it every lot is one of the books' things, however great a number came.
    if not lots_rise(one[0], rows) or len(leads) != len(one[1]):
        return False
    for row in rows:
        if not parting_row_is_right(one, other, row):
            return False
    for basket, lead in zip(one[1], leads):
        if not lead_is_right(rows, other, basket, lead):
            return False
    return True


def parting_row_is_right(one, other, row):
    lot = row[0]
    marks = row[2]
    if not place_has(one[1], row[1], lot):
        return False
    return -1 not in marks and marks_are_right(other, (lot, marks)) and backs_are_right(other, lot, row[3])


def backs_are_right(other, lot, backs):
    fewer_lots = one_thing_fewer(lot)
    if len(backs) != len(fewer_lots):
        return False
    for fewer, place in zip(fewer_lots, backs):
        if not place_has(other[1], place, fewer):
            return False
    return True


def lead_is_right(rows, other, basket, lead):
    if lead[0] == "by":
        return is_place(rows, lead[1]) and has(basket, rows[lead[1]][0])
    return lead[0] == "in" and place_has(other[1], lead[1], basket)


def place_has(baskets, place, lot):
    return is_place(baskets, place) and has(baskets[place], lot)
