"""Lots, rules and days as texts, by a list of the things' names, and read back from them."""

from oftenlots.errors import NoText
from oftenlots.lots import lot_of, things_in


def show_lot(names, lot):
    if lot == 0:
        return "-"
    return " ".join([names[thing] for thing in things_in(lot)])


def show_rule(names, rule):
    return show_lot(names, rule[0]) + " => " + show_lot(names, rule[1])


def show_day(names, day):
    if len(day) == 0:
        return "none"
    return "; ".join([show_lot(names, basket) for basket in day])


def read_lot(names, text):
    words = text.split(" ")
    lot = lot_of([thing for thing, name in enumerate(names) if name in words])
    # One text alone is a lot's own: so whatever else stands there, or stands there otherwise, is refused.
    if show_lot(names, lot) != text:
        raise NoText("this text is no lot's")
    return lot


def read_rule(names, text):
    sides = text.split(" => ")
    if len(sides) != 2:
        raise NoText("a rule has two lots with => between")
    return (read_lot(names, sides[0]), read_lot(names, sides[1]))


def read_day(names, text):
    if text == "none":
        return []
    return [read_lot(names, part) for part in text.split("; ")]
