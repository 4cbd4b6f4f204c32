"""A keeper of days: what the book of the days that are there tells, and what the last deed changed in it."""

from oftenlots.books import holders
from oftenlots.closed import closed_lots
from oftenlots.errors import NoDay, NoLeast


class Keeper:
    def __init__(self, many, least, most):
        self.many = many
        self.least = least
        self.most = most
        self.kept = []
        self.told_ahead = []
        self.told_now = []

    def come(self, day):
        # A copy: whoever handed the day in may change it behind.
        self.kept.append(list(day))
        if len(self.kept) > self.most:
            self.kept.pop(0)
        self.tell_anew()

    def go(self):
        if len(self.kept) == 0:
            raise NoDay("there is no day that could go")
        self.kept.pop(0)
        self.tell_anew()

    def need(self, least):
        if least < 1:
            raise NoLeast("a least is from 1 on")
        self.least = least
        self.tell_anew()

    def days(self):
        return [list(day) for day in self.kept]

    def closed(self):
        return list(self.told_now)

    def count(self, lot):
        return len(holders(self.book(), lot))

    def changes(self):
        came = rows_not_in(self.told_now, self.told_ahead)
        went = rows_not_in(self.told_ahead, self.told_now)
        return (came, went, rows_moved(self.told_ahead, self.told_now))

    def book(self):
        baskets = []
        for day in self.kept:
            baskets.extend(day)
        return (self.many, baskets)

    def tell_anew(self):
        self.told_ahead = self.told_now
        self.told_now = closed_lots(self.book(), self.least)


def counts_by_lot(rows):
    counts = {}
    for row in rows:
        counts[row[0]] = row[1]
    return counts


def rows_not_in(rows, others):
    counts = counts_by_lot(others)
    return [row for row in rows if row[0] not in counts]


def rows_moved(ahead, now):
    counts = counts_by_lot(ahead)
    return [(row[0], counts[row[0]], row[1]) for row in now if row[0] in counts and counts[row[0]] != row[1]]
