"""A shop: it keeps names of things and a keeper of days, is told lines, and answers each with a text."""

from oftenlots.errors import NoLine, NoText, NoThings
from oftenlots.fewrules import few_rules
from oftenlots.greatest import greatest
from oftenlots.keeper import Keeper
from oftenlots.levels import border, often
from oftenlots.lots import things_in
from oftenlots.rooms import MOST_THINGS, lesser_counts, room
from oftenlots.rules import holds, share
from oftenlots.texts import is_name, joined, read_day, read_lot, read_number, read_rule, show_lot, show_rule

MOST_NAMES = 12
MOST_DAYS = 10
MOST_BASKETS = 40

BARE_WORDS = ("go", "closed", "changes", "rules", "often", "border", "greatest")
OTHER_WORDS = ("things", "day", "need", "count", "does", "share", "room", "top")
DEEDS = ("day", "go", "need")


class Shop:
    def __init__(self):
        self.names = []
        self.keeper = None

    def say(self, line):
        said = read_line(line)
        word = said[0]
        if word == "things":
            self.names = said[1]
            self.keeper = Keeper(len(said[1]), 1, MOST_DAYS)
            return "ok"
        if self.keeper is None:
            raise NoThings("no things line was taken yet")
        handed = read_by_names(self.names, word, said[1])
        if word in DEEDS:
            do_deed(self.keeper, word, handed)
            return "ok"
        return answer(self.names, self.keeper, word, handed)


# What is refused ahead of all that the names decide: told are the first word and what stands behind it,
# for things as a list, for need and top as a number.
def read_line(line):
    parts = line.partition(" ")
    word = parts[0]
    rest = parts[2]
    if word in BARE_WORDS and line == word:
        return (word, "")
    if word not in OTHER_WORDS or rest == "":
        raise NoLine("no line begins so, or it has too little or too much behind its first word")
    if word == "things":
        return (word, read_names(rest))
    if word == "need" or word == "top":
        return (word, read_line_number(word, rest))
    return (word, rest)


def read_names(text):
    names = text.split(" ")
    if len(names) > MOST_NAMES or len(set(names)) < len(names):
        raise NoLine("there are too many names, or one of them twice")
    if not all([is_name(name) for name in names]):
        raise NoLine("a name has one to eight small letters and is not none")
    return names


def read_line_number(word, text):
    try:
        number = read_number(text)
    except NoText:
        raise NoLine("a number is written in figures")
    if word == "top" and number < 1:
        raise NoLine("the first lots are one at the least")
    return number


def read_by_names(names, word, handed):
    try:
        if word == "day":
            return checked_day(read_day(names, handed))
        if word == "count":
            return read_lot(names, handed)
        if word == "room":
            return checked_room_lot(read_lot(names, handed))
        if word == "does" or word == "share":
            return read_rule(names, handed)
    except NoText:
        raise NoLine("what stands behind the first word is not read by the names")
    return handed


def checked_day(day):
    if len(day) > MOST_BASKETS:
        raise NoLine("a day has at most forty baskets")
    return day


def checked_room_lot(lot):
    if lot == 0 or len(things_in(lot)) > MOST_THINGS:
        raise NoLine("the lot of a room has one to nine things")
    return lot


def do_deed(keeper, word, handed):
    if word == "day":
        keeper.come(handed)
    elif word == "go":
        keeper.go()
    else:
        keeper.need(handed)


def answer(names, keeper, word, handed):
    if word == "count":
        return str(keeper.count(handed))
    if word == "changes":
        return show_changes(names, keeper.changes())
    if word == "does":
        return "yes" if holds(keeper.book(), handed) else "no"
    if word == "share":
        return show_share(share(keeper.book(), handed))
    if word == "rules":
        return joined("; ", [show_rule(names, rule) for rule in few_rules(keeper.book())])
    if word == "room":
        space = room(handed, lesser_counts(keeper.book(), handed))
        return str(space[0]) + " to " + str(space[1])
    return show_rows(names, rows_asked(keeper, word, handed))


def rows_asked(keeper, word, handed):
    if word == "often":
        return often(keeper.book(), keeper.least)
    if word == "border":
        return border(keeper.book(), keeper.least)
    if word == "greatest":
        return greatest(keeper.book(), keeper.least)
    if word == "top":
        # Of as many the lesser lot stays first: sorted keeps the order of what is alike.
        return sorted(keeper.closed(), key=lambda row: -row[1])[:handed]
    return keeper.closed()


def show_rows(names, rows):
    return joined("; ", [show_row(names, row) for row in rows])


def show_row(names, row):
    return show_lot(names, row[0]) + ": " + str(row[1])


def show_changes(names, changes):
    moved = joined("; ", [show_row(names, row) + " to " + str(row[2]) for row in changes[2]])
    return " / ".join([show_rows(names, changes[0]), show_rows(names, changes[1]), moved])


def show_share(fraction):
    if fraction is None:
        return "none"
    return str(fraction[0]) + "/" + str(fraction[1])
