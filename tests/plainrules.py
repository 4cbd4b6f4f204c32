"""The document's words on neighbours, rules and days over sets of things and fractions, slow and plain."""

from fractions import Fraction

import plain
from plain import closing, count, lots_of, number, things


def within(one, other):
    return things(one) <= things(other)


def between(closed, one, other):
    """Is a listed lot between the two, neither of which it is?"""
    return any(things(one) < things(row[0]) < things(other) for row in closed)


def above(closed, lot):
    return sorted(row[0] for row in closed
                  if things(lot) < things(row[0]) and not between(closed, lot, row[0]))


def below(closed, lot):
    return sorted(row[0] for row in closed if lot in above(closed, row[0]))


def is_row(closed, lots):
    return all(later in above(closed, former) for former, later in zip(lots, lots[1:]))


def longest_length(closed):
    """By going through all rows."""
    def length_from(lot):
        return 1 + max((length_from(higher) for higher in above(closed, lot)), default=0)

    return max((length_from(row[0]) for row in closed), default=0)


def just(book):
    return [(lot, book[1].count(lot)) for lot in sorted(set(book[1]))]


def share(book, rule):
    if count(book, rule[0]) == 0:
        return None
    told = Fraction(count(book, rule[0] | rule[1]), count(book, rule[0]))
    return (told.numerator, told.denominator)


def holds(book, rule):
    return all(things(rule[1]) <= things(basket) for basket in book[1] if things(rule[0]) <= things(basket))


def brought_on(rules, lot):
    have = set(things(lot))
    steps = []
    while True:
        fitting = [place for place, (first, then) in enumerate(rules)
                   if things(first) <= have and not things(then) <= have]
        if not fitting:
            return (number(have), steps)
        steps.append(fitting[0])
        have |= things(rules[fitting[0]][1])


def follows(rules, rule):
    whole, steps = brought_on(rules, rule[0])
    for length in range(len(steps) + 1):
        have = set(things(rule[0])).union(*(things(rules[place][1]) for place in steps[:length]))
        if things(rule[1]) <= have:
            return ("by", steps[:length])
    return ("shut", whole)


def follow_holds(rules, rule, told):
    word, shown = told
    if word == "by" and isinstance(shown, list):
        have = set(things(rule[0]))
        for place in shown:
            if place not in range(len(rules)) or not things(rules[place][0]) <= have:
                return False
            have |= things(rules[place][1])
        return things(rule[1]) <= have
    if word == "shut" and isinstance(shown, int) and shown >= 0:
        have = things(shown)
        broken = [other for other in rules if things(other[0]) <= have and not things(other[1]) <= have]
        return things(rule[0]) <= have and not things(rule[1]) <= have and not broken
    return False


def wanting(book):
    """Lot by lot, by how many things they have."""
    found = []
    for lot in sorted(lots_of(book[0]), key=lambda lot: (len(things(lot)), lot)):
        if closing(book, lot) != lot and all(within(closing(book, other), lot) for other in found
                                             if within(other, lot)):
            found.append(lot)
    return sorted(found)


def few_rules(book):
    return [(lot, number(things(closing(book, lot)) - things(lot))) for lot in wanting(book)]


def served(book, rules):
    told = []
    for lot in wanting(book):
        fitting = [place for place, (first, then) in enumerate(rules)
                   if within(first, lot) and closing(book, first) == closing(book, lot) and not within(then, lot)]
        told.append(fitting[0] if fitting else None)
    return told


def short_rules(book, least, told_share):
    told = []
    for lot, own in plain.all_least(book, least):
        for greater, its in plain.closed_lots(book, least):
            part = Fraction(its, own)
            if things(lot) < things(greater) and part >= Fraction(*told_share):
                then = number(things(greater) - things(lot))
                told.append((lot, then, its, (part.numerator, part.denominator)))
    return sorted(told)


def changes(ahead, now):
    before, behind = dict(ahead), dict(now)
    return ([(lot, behind[lot]) for lot in sorted(set(behind) - set(before))],
            [(lot, before[lot]) for lot in sorted(set(before) - set(behind))],
            [(lot, before[lot], behind[lot]) for lot in sorted(set(before) & set(behind))
             if before[lot] != behind[lot]])
