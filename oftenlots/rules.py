"""Rules of two lots, their shares in a book, and how one follows from a list of others.

A rule is a tuple (first, then): whoever has the things of first has those of then too.
"""

from oftenlots.books import count
from oftenlots.lots import has, is_place


def rule_count(book, rule):
    return count(book, rule[0] | rule[1])


def share(book, rule):
    bottom = count(book, rule[0])
    if bottom == 0:
        return None
    return lowest_terms(rule_count(book, rule), bottom)


def lowest_terms(top, bottom):
    factor = bottom
    rest = top
    while rest > 0:
        former = rest
        rest = factor % rest
        factor = former
    return (top // factor, bottom // factor)


def holds(book, rule):
    return rule_count(book, rule) == count(book, rule[0])


def brought_on(rules, lot):
    come = lot
    steps = []
    place = place_to_take(rules, come)
    while place is not None:
        steps.append(place)
        come = come | rules[place][1]
        place = place_to_take(rules, come)
    return (come, steps)


def place_to_take(rules, lot):
    for place, rule in enumerate(rules):
        if has(lot, rule[0]) and not has(lot, rule[1]):
            return place
    return None


def keeps_all(lot, rules):
    return place_to_take(rules, lot) is None


def follows(rules, rule):
    whole = brought_on(rules, rule[0])
    if not has(whole[0], rule[1]):
        return ("shut", whole[0])
    return ("by", steps_needed(rules, rule, whole[1]))


def steps_needed(rules, rule, steps):
    come = rule[0]
    needed = []
    for place in steps:
        if has(come, rule[1]):
            break
        needed.append(place)
        come = come | rules[place][1]
    return needed


def follow_holds(rules, rule, told):
    if told[0] == "by" and isinstance(told[1], list):
        return steps_show(rules, rule, told[1])
    if told[0] == "shut" and isinstance(told[1], int):
        return lot_shows(rules, rule, told[1])
    return False


def steps_show(rules, rule, steps):
    come = rule[0]
    for place in steps:
        if not is_place(rules, place) or not has(come, rules[place][0]):
            return False
        come = come | rules[place][1]
    return has(come, rule[1])


def lot_shows(rules, rule, lot):
    return lot >= 0 and has(lot, rule[0]) and not has(lot, rule[1]) and keeps_all(lot, rules)
