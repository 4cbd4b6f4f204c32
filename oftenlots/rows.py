"""Rows of lots over the visits of buyers: how they fit, which are often or closed, and a paper buyer by buyer.

A history is a tuple (many, buyers), each buyer a list of lots, visit by visit; a row is a list of lots.
"""

from oftenlots.lots import has, things_lacking, with_thing


def first_fit(visits, row):
    places = first_places(visits, row)
    if len(places) < len(row):
        return None
    return places


# Each place the earliest that can be, for as many lots from the first on as the visits have.
def first_places(visits, row):
    places = []
    for place, visit in enumerate(visits):
        if len(places) < len(row) and has(visit, row[len(places)]):
            places.append(place)
    return places


def last_fit(visits, row):
    # Seen from the end, the latest is the earliest.
    turned = first_fit(list(reversed(visits)), list(reversed(row)))
    if turned is None:
        return None
    return [len(visits) - 1 - place for place in reversed(turned)]


def short_fit(visits, row):
    told = first_fit(visits, row)
    if told is None or len(told) == 0:
        return told
    # Of those that begin at a visit its first fit ends earliest and is the first in the order of lists.
    for start in range(len(visits)):
        fit = first_fit(visits[start:], row)
        if fit is not None and fit[-1] - fit[0] < told[-1] - told[0]:
            told = [start + place for place in fit]
    return told


def row_count(history, row):
    return len(row_buyers(history, row))


def row_buyers(history, row):
    return [place for place, visits in enumerate(history[1]) if lies_in(row, visits)]


def lies_in(row, other):
    return first_fit(other, row) is not None


def often_rows(history, least, most):
    level = often_among_rows(history, least, [[]])
    told = list(level)
    weight = 0
    while weight < most and len(level) > 0:
        level = often_among_rows(history, least, grown_rows(history[0], level))
        told.extend(level)
        weight = weight + 1
    return told


def often_among_rows(history, least, rows):
    counted_rows = [(row, row_count(history, row)) for row in rows]
    return [row for row in counted_rows if row[1] >= least]


# Those of one thing more, in the order of lists: each comes from just one, and a row is no more often than that one.
def grown_rows(many, level):
    told = []
    for row in level:
        told.extend(grown_from_row(many, row[0]))
    return sorted(told)


def grown_from_row(many, row):
    told = [row + [with_thing(0, thing)] for thing in range(many)]
    if len(row) > 0:
        last = row[-1]
        told.extend([row[:-1] + [with_thing(last, thing)] for thing in range(last.bit_length(), many)])
    return told


def closed_rows(history, least, most):
    return [row for row in often_rows(history, least, most) if is_closed_row(history, row)]


def is_closed_row(history, row):
    for more in rows_of_one_more(history[0], row[0]):
        if row_count(history, more) == row[1]:
            return False
    return True


def rows_of_one_more(many, row):
    told = []
    for place, lot in enumerate(row):
        told.extend([row[:place] + [with_thing(lot, thing)] + row[place + 1:] for thing in things_lacking(many, lot)])
    for place in range(len(row) + 1):
        told.extend([row[:place] + [with_thing(0, thing)] + row[place:] for thing in range(many)])
    return told


def row_paper(history, row):
    return [buyer_entry(visits, row) for visits in history[1]]


def buyer_entry(visits, row):
    places = first_places(visits, row)
    if len(places) < len(row):
        return ("stuck", places)
    return ("fits", places)


def row_holds(history, row, paper):
    if len(paper) != len(history[1]):
        return False
    for visits, entry in zip(history[1], paper):
        if not entry_is_right(visits, row, entry):
            return False
    return True


def entry_is_right(visits, row, entry):
    if entry[0] == "fits":
        return places_fit(visits, row, entry[1])
    # Where visits are stuck, nothing but the told entry is right.
    return entry == buyer_entry(visits, row)


def places_fit(visits, row, places):
    if len(places) != len(row):
        return False
    last = -1
    for place, lot in zip(places, row):
        if place <= last or place >= len(visits) or not has(visits[place], lot):
            return False
        last = place
    return True
