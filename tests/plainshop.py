"""The document's words on a shop over the other plain tellings, slow and plain: it takes lines and tells texts."""

import re

import plain
import plainapart
import plainlevels
import plainrules
from oftenlots.errors import NoDay, NoLeast, NoLine, NoThings

N = re.compile(r"(0|-?[1-9][0-9]{0,39})\Z")
NAME = re.compile(r"[a-z]{1,8}\Z")
ALONE = ("go", "closed", "changes", "rules", "often", "border", "greatest")
WITH_MORE = ("things", "day", "need", "count", "does", "share", "room", "top")


class PlainShop:
    def __init__(self):
        self.names = None

    def say(self, line):
        word, blank, rest = line.partition(" ")
        self.look_at_form(word, blank, rest)
        if word == "things":
            self.names, self.days, self.least, self.ahead = rest.split(" "), [], 1, None
            return "ok"
        if self.names is None:
            raise NoThings()
        if word in ALONE or word in ("need", "top"):
            return getattr(self, "say_" + word)(*([int(rest)] if rest else []))
        return getattr(self, "say_" + word)(*self.read(word, rest))

    def look_at_form(self, word, blank, rest):
        if word not in ALONE + WITH_MORE or (word in ALONE and blank) or (word in WITH_MORE and not rest):
            raise NoLine()
        names = rest.split(" ")
        if word == "things" and (len(names) > 12 or len(set(names)) != len(names) or "none" in names
                                 or not all(NAME.match(name) for name in names)):
            raise NoLine()
        if word in ("need", "top") and (not N.match(rest) or (word == "top" and int(rest) < 1)):
            raise NoLine()

    def read(self, word, rest):
        if word == "day":
            day = [] if rest == "none" else [self.lot(part) for part in rest.split("; ")]
            if len(day) > 40:
                raise NoLine()
            return [day]
        lots = [self.lot(part) for part in (rest.split(" => ") if word in ("does", "share") else [rest])]
        if len(lots) != (2 if word in ("does", "share") else 1):
            raise NoLine()
        if word == "room" and not 1 <= len(plain.things(lots[0])) <= 9:
            raise NoLine()
        return lots

    def lot(self, text):
        if text == "-":
            return 0
        words = text.split(" ")
        if not all(word in self.names for word in words):
            raise NoLine()
        things = [self.names.index(word) for word in words]
        if things != sorted(set(things)):
            raise NoLine()
        return plain.number(things)

    def book(self):
        return (len(self.names), [basket for day in self.days for basket in day])

    def told(self):
        return plain.closed_lots(self.book(), self.least)

    def show(self, lot):
        return " ".join(self.names[thing] for thing in sorted(plain.things(lot))) or "-"

    def show_rows(self, rows):
        return "; ".join(f"{self.show(lot)}: {its}" for lot, its in rows) or "none"

    def say_day(self, day):
        self.ahead = self.told()
        self.days = (self.days + [day])[-10:]
        return "ok"

    def say_go(self):
        if not self.days:
            raise NoDay()
        self.ahead = self.told()
        self.days = self.days[1:]
        return "ok"

    def say_need(self, least):
        if least < 1:
            raise NoLeast()
        self.ahead = self.told()
        self.least = least
        return "ok"

    def say_count(self, lot):
        return str(plain.count(self.book(), lot))

    def say_closed(self):
        return self.show_rows(self.told())

    def say_changes(self):
        now = dict(self.told())
        then = now if self.ahead is None else dict(self.ahead)
        came = [row for row in sorted(now.items()) if row[0] not in then]
        went = [row for row in sorted(then.items()) if row[0] not in now]
        moved = "; ".join(f"{self.show(lot)}: {then[lot]} to {now[lot]}" for lot in sorted(set(now) & set(then))
                          if then[lot] != now[lot])
        return " / ".join([self.show_rows(came), self.show_rows(went), moved or "none"])

    def say_does(self, first, then):
        return "yes" if set(plain.holders(self.book(), first)) <= set(plain.holders(self.book(), then)) else "no"

    def say_share(self, first, then):
        share = plainrules.share(self.book(), (first, then))
        return "none" if share is None else f"{share[0]}/{share[1]}"

    def say_rules(self):
        rules = plainrules.few_rules(self.book())
        return "; ".join(f"{self.show(first)} => {self.show(then)}" for first, then in rules) or "none"

    def say_often(self):
        return self.show_rows(plainlevels.often(self.book(), self.least))

    def say_border(self):
        return self.show_rows(plainlevels.border(self.book(), self.least))

    def say_greatest(self):
        return self.show_rows(plainapart.greatest(self.book(), self.least))

    def say_room(self, lot):
        low, high = plainapart.room(lot, plainapart.lesser_counts(self.book()[1], lot))
        return f"{low} to {high}"

    def say_top(self, how_many):
        return self.show_rows(sorted(self.told(), key=lambda row: (-row[1], row[0]))[:how_many])
