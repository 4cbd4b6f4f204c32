"""Lots, rules, days and numbers as texts, by a list of the things' names, and read back from them."""

from oftenlots.errors import NoText
from oftenlots.lots import lot_of, things_in

MOST_LETTERS = 8
MOST_FIGURES = 40


def is_name(text):
    return text.isalpha() and text.islower() and len(text) <= MOST_LETTERS and text != "none"


def show_lot(names, lot):
    if lot == 0:
        return "-"
    return " ".join([names[thing] for thing in things_in(lot)])


def show_rule(names, rule):
    return show_lot(names, rule[0]) + " => " + show_lot(names, rule[1])


def show_day(names, day):
    return joined("; ", [show_lot(names, basket) for basket in day])


def joined(sign, texts):
    if len(texts) == 0:
        return "none"
    return sign.join(texts)


def read_lot(names, text):
    words = text.split(" ")
    lot = lot_of([thing for thing, name in enumerate(names) if name in words])
    # One text alone is a lot's own: so whatever else stands there, or stands there otherwise, is refused.
    if show_lot(names, lot) != text:
        raise NoText("this text is no lot's")
    return lot


def read_rule(names, text):
    sides = split_in(text, " => ", 2)
    return (read_lot(names, sides[0]), read_lot(names, sides[1]))


def read_day(names, text):
    return [read_lot(names, part) for part in taken_apart("; ", text)]


def taken_apart(sign, text):
    if text == "none":
        return []
    return text.split(sign)


def split_in(text, sign, many):
    pieces = text.split(sign)
    if len(pieces) != many:
        raise NoText("there are too few or too many pieces")
    return pieces


def read_number(text):
    figures = text[1:] if text.startswith("-") else text
    if not figures.isdigit() or len(figures) > MOST_FIGURES:
        raise NoText("this text is no number's")
    number = int(text)
    # One text alone is a number's own: so none with a 0 first, and no 0 with a sign.
    if str(number) != text:
        raise NoText("this number is written otherwise")
    return number
