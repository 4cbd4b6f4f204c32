"""Lots as numbers: the thing k is in a lot where its bit k is 1."""


# Of a book's many things this is the lot of all things.
def things_below(number):
    return (1 << number) - 1


def has(one, other):
    return (one & other) == other


def has_any(lot, others):
    for other in others:
        if has(lot, other):
            return True
    return False


def lies_in_any(lot, others):
    for other in others:
        if has(other, lot):
            return True
    return False


def has_thing(lot, thing):
    return has(lot, 1 << thing)


def with_thing(lot, thing):
    return lot | (1 << thing)


# Of a basket's things, or of places of baskets: then it is a column.
def lot_of(things):
    lot = 0
    for thing in things:
        lot = with_thing(lot, thing)
    return lot


def without(lot, other):
    return lot - (lot & other)


def all_lots(many):
    return list(range(things_below(many) + 1))


def things_lacking(many, lot):
    return [thing for thing in range(many) if not has_thing(lot, thing)]


def things_in(lot):
    return [thing for thing in range(lot.bit_length()) if has_thing(lot, thing)]


# Rising, the empty lot and the lot itself among them: with each next thing come only greater lots than all ahead.
def lots_within(lot):
    told = [0]
    for thing in things_in(lot):
        told = told + [with_thing(part, thing) for part in told]
    return told


def lesser_lots(lot):
    return lots_within(lot)[:-1]


# Of rising lots those with no other one within them: what lies in a lot is a lesser number, so it stands ahead.
def least_among(lots):
    told = []
    for lot in lots:
        if not has_any(lot, told):
            told.append(lot)
    return told


# Each without another one of the lot's things.
def one_thing_fewer(lot):
    return [lot - (1 << thing) for thing in things_in(lot)]


# Of rows whose lots stand first.
def lots_of(rows):
    return [row[0] for row in rows]


# Below 0 Python would count from a list's end.
def is_place(rows, place):
    return place >= 0 and place < len(rows)


# Of the rows of a paper, whose lots stand first: each greater than the one ahead, all of them of so many things.
def lots_rise(many, rows):
    last = -1
    for row in rows:
        if row[0] <= last:
            return False
        last = row[0]
    return last <= things_below(many)
