"""The room that the counts of lesser lots leave for the count of a lot, and the lots that it settles.

Lesser counts are a list of tuples (lot, count), one for each lot within a lot but itself.
"""

from oftenlots.errors import NoRoom
from oftenlots.levels import counted, often
from oftenlots.lots import has_thing, lesser_lots, lots_within, one_thing_fewer, things_in, with_thing

# A book of at most two hundred baskets settles every lot of more things.
MOST_THINGS = 9


def lesser_counts(book, lot):
    return counted(book, lesser_lots(lot))


def room(lot, counts):
    sums = sums_by_lot(lot, counts)
    low = max([0] + [sums[part] for part in from_below(lot)])
    high = min([sums[part] for part in from_above(lot)])
    if low > high:
        return None
    return (low, high)


# For each lot within the lot the sum of signed counts over all lots between the two.
def sums_by_lot(lot, counts):
    sums = {}
    for row in counts:
        sums[row[0]] = row[1] if is_odd(lot - row[0]) else -row[1]
    # The lot itself is not among those between.
    sums[lot] = 0
    # Thing by thing: behind each, a sum is over all that is between by the things gone through so far.
    for thing in things_in(lot):
        for part in lots_within(lot):
            if not has_thing(part, thing):
                sums[part] = sums[part] + sums[with_thing(part, thing)]
    return sums


def is_odd(lot):
    return len(things_in(lot)) % 2 == 1


# The sums of these lots tell what the lot's count is no less than.
def from_below(lot):
    return [part for part in lesser_lots(lot) if not is_odd(lot - part)]


# The sums of these lots tell what the lot's count is no greater than.
def from_above(lot):
    return [part for part in lots_within(lot) if is_odd(lot - part)]


def ends_of_room(lot, counts):
    space = room(lot, counts)
    if space is None:
        return None
    sums = sums_by_lot(lot, counts)
    lowest = [part for part in from_below(lot) if sums[part] == space[0]]
    highest = [part for part in from_above(lot) if sums[part] == space[1]]
    # By nought alone no lot stands there.
    return (min(lowest, default=-1), min(highest))


def filled(lot, counts, number):
    space = room(lot, counts)
    if space is None or number < space[0] or number > space[1]:
        raise NoRoom("no book with these lesser counts has this count")
    sums = sums_by_lot(lot, counts)
    told = []
    # So many baskets are just a lot, as its sum leaves between itself and the number; the lot's own sum is nought.
    for part in lots_within(lot):
        told.extend([part] * abs(number - sums[part]))
    return told


def settled(book, lot):
    if lot == 0:
        return False
    if len(things_in(lot)) > MOST_THINGS:
        return True
    return only_number(room(lot, lesser_counts(book, lot))) is not None


# Of the room by counts that some book has, so there is one.
def only_number(space):
    if space[0] != space[1]:
        return None
    return space[0]


def open_lots(book, least):
    opened = {}
    # Rising: of a lot with a settled one within it one with a thing fewer is settled, and is looked at by then.
    for row in often(book, least):
        if all([fewer in opened for fewer in one_thing_fewer(row[0])]) and not settled(book, row[0]):
            opened[row[0]] = row[1]
    return list(opened.items())


def count_again(opened, least, lot):
    listed = dict(opened)
    counts = {}
    # Rising, so that each lesser lot is told once, ahead of all that it lies in.
    for part in lots_within(lot):
        counts[part] = listed[part] if part in listed else count_by_room(counts, least, part)
    return counts[lot]


# Of a lot that is not open: it is settled, or it is rare.
def count_by_room(counts, least, lot):
    lesser = [(part, counts[part]) for part in lesser_lots(lot)]
    if lot == 0 or any([row[1] is None for row in lesser]):
        return None
    number = only_number(room(lot, lesser))
    if number is None or number < least:
        return None
    return number
