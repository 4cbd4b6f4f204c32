"""The few rules from which all that always hold follow, ways between closed lots, and short rules."""

from oftenlots.books import closing, is_closed
from oftenlots.closed import closed_lots
from oftenlots.leastlots import all_least
from oftenlots.lots import all_lots, has
from oftenlots.neighbours import above
from oftenlots.rules import keeps_all, lowest_terms


def few_rules(book):
    told = []
    # Rising: what lies in a lot is a lesser number, so by then all rules of lots within it are there,
    # and it keeps them where it has the closings of those lots.
    for lot in all_lots(book[0]):
        if not is_closed(book, lot) and keeps_all(lot, told):
            told.append((lot, closing(book, lot) - lot))
    return told


def served(book, rules):
    return [serving_place(book, few[0], rules) for few in few_rules(book)]


def serving_place(book, lot, rules):
    for place, rule in enumerate(rules):
        if serves(book, lot, rule):
            return place
    return None


def serves(book, lot, rule):
    return has(lot, rule[0]) and not has(lot, rule[1]) and closing(book, rule[0]) == closing(book, lot)


def way(closed, one, other):
    told = [one]
    while told[-1] != other:
        told.append(step_towards(closed, told[-1], other))
    return told


# The other lot is listed and has this one, so one of those above this one lies in it.
def step_towards(closed, lot, other):
    return [higher for higher in above(closed, lot) if has(other, higher)][0]


def short_rules(book, least, share):
    closed = closed_lots(book, least)
    told = []
    for row in all_least(book, least):
        told.extend([short_rule(row, greater) for greater in closed if is_short(row, greater, share)])
    return told


# Products in the place of shares, so that it is whole numbers that are held against each other.
def is_short(row, greater, share):
    return has(greater[0], row[0]) and greater[0] != row[0] and greater[1] * share[1] >= share[0] * row[1]


def short_rule(row, greater):
    return (row[0], greater[0] - row[0], greater[1], lowest_terms(greater[1], row[1]))
