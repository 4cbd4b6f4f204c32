"""The words of the document over sets of things, slow and plain, to hold the program's answers against."""

import random
import signal
from contextlib import contextmanager

FORTY = 10 ** 40 - 1


def things(lot):
    return frozenset(k for k in range(lot.bit_length()) if lot >> k & 1)


def number(some):
    return sum(2 ** k for k in some)


def lots_of(many):
    return range(2 ** many)


def holders(book, lot):
    return [p for p, basket in enumerate(book[1]) if things(lot) <= things(basket)]


def count(book, lot):
    return len(holders(book, lot))


def common(book, places):
    return number(k for k in range(book[0]) if all(k in things(book[1][p]) for p in places))


def closing(book, lot):
    return common(book, holders(book, lot))


# Closed lots are all that any baskets have in common; so come by no closing at all.
def closed_lots(book, least):
    found = {2 ** book[0] - 1}
    for basket in book[1]:
        found |= {basket & other for other in found}
    counted = [(lot, sum(basket & lot == lot for basket in book[1])) for lot in sorted(found)]
    return [row for row in counted if row[1] >= least]


def going(book, least):
    told = []

    def walk(c, k):
        for j in range(k + 1, book[0]):
            if j in things(c):
                continue
            d = closing(book, number(things(c) | {j}))
            if count(book, d) >= least and not any(i < j for i in things(d) - things(c)):
                told.append((d, c, j))
                walk(d, j)

    if len(book[1]) >= least:
        first = closing(book, 0)
        told.append((first, first, -1))
        walk(first, -1)
    return told


def closed_paper(book, least):
    paper = []
    for lot, many_have in closed_lots(book, least):
        reasons = []
        for thing in range(book[0]):
            if thing in things(lot):
                continue
            more = number(things(lot) | {thing})
            if count(book, more) >= least:
                reasons.append((thing, "leads", closing(book, more)))
            else:
                reasons.append((thing, "rare", holders(book, more)))
        paper.append((lot, many_have, reasons))
    return paper


def fewer(lot):
    return [number(things(lot) - {k}) for k in things(lot)]


def is_least(book, lot):
    return all(count(book, part) > count(book, lot) for part in fewer(lot))


def all_least(book, least):
    return [(lot, count(book, lot)) for lot in lots_of(book[0])
            if count(book, lot) >= least and is_least(book, lot)]


def least_lots(book, lot):
    return [part for part in lots_of(book[0]) if is_least(book, part) and closing(book, part) == lot]


def least_rare(book, least):
    return [lot for lot in lots_of(book[0])
            if count(book, lot) < least and all(count(book, part) >= least for part in fewer(lot))]


def kin(book, lot):
    return sum(closing(book, part) == lot for part in lots_of(book[0]))


def some_books(how_many, most_things, most_baskets, seed):
    chance = random.Random(seed)
    for turn in range(how_many):
        many = chance.randint(1, most_things)
        baskets = []
        for place in range(chance.randint(0, most_baskets)):
            basket = chance.randrange(2 ** many)
            # Fuller baskets now and then, else deep lots would hardly ever be often.
            if chance.random() < 0.5:
                basket |= chance.randrange(2 ** many)
            baskets.append(basket)
        if baskets and chance.random() < 0.3:
            baskets.append(baskets[0])
        yield (many, baskets)


# All kinds of edges that the document names, in small books.
EDGE_BOOKS = [
    (1, []),
    (1, [0]),
    (1, [1]),
    (1, [0, 1, 0]),
    (3, []),
    (3, [0]),
    (3, [0, 0, 0]),
    (3, [7]),
    (3, [7, 7]),
    (3, [7, 0]),
    (3, [1, 2, 4]),
    (3, [6, 5, 3]),
    (3, [6, 6, 6]),
    (4, [8, 8, 0]),
    (4, [1, 3, 7, 15]),
    (4, [15, 7, 3, 1, 0]),
]


def small_books(seed):
    for book in EDGE_BOOKS:
        yield (book[0], list(book[1]))
    yield from some_books(25, 5, 9, seed)


def leasts_for(book):
    return sorted({1, 2, 3, max(1, len(book[1])), len(book[1]) + 1, FORTY})


# Twelve things, and of 200 baskets each lacks one: then every lot but that of all things is closed and often.
def widest_book():
    return (12, [4095 - 2 ** (place % 12) for place in range(200)])


def lists_in(told):
    if isinstance(told, list):
        yield told
    if isinstance(told, (list, tuple)):
        for part in told:
            yield from lists_in(part)


def all_in(told):
    yield told
    if isinstance(told, (list, tuple)):
        for part in told:
            yield from all_in(part)


@contextmanager
def within_seconds(seconds):
    def late(signum, frame):
        raise AssertionError(f"no answer within {seconds} seconds")

    before = signal.signal(signal.SIGALRM, late)
    signal.alarm(seconds)
    try:
        yield
    finally:
        signal.alarm(0)
        signal.signal(signal.SIGALRM, before)
