"""The document's words on rows over days and on parts of a book, slow and plain."""

from itertools import combinations

import plain
import plainlevels
from plain import count, fewer, lots_of, things


def fits(visits, row):
    """All lists of places that fit."""
    return [list(places) for places in combinations(range(len(visits)), len(row))
            if all(things(lot) <= things(visits[place]) for lot, place in zip(row, places))]


def first_fit(visits, row):
    return min(fits(visits, row), default=None)


def last_fit(visits, row):
    return max(fits(visits, row), key=lambda places: places[::-1], default=None)


def short_fit(visits, row):
    if not row:
        return []
    return min(fits(visits, row), key=lambda places: (places[-1] - places[0] + 1, places[0], places), default=None)


def row_buyers(history, row):
    return [place for place, visits in enumerate(history[1]) if fits(visits, row)]


def weight(row):
    return sum(len(things(lot)) for lot in row)


def all_rows(many, most):
    """All rows of a weight of at most the most."""
    told = [[]]
    for lot in range(1, 2 ** many):
        if len(things(lot)) <= most:
            told += [[lot] + rest for rest in all_rows(many, most - len(things(lot)))]
    return told


def often_rows(history, least, most):
    rows = sorted(all_rows(history[0], most), key=lambda row: (weight(row), row))
    counted = [(row, len(row_buyers(history, row))) for row in rows]
    return [row for row in counted if row[1] >= least]


def is_one_more(many, row, more):
    """Whether the one is the other with one thing more, by what is left where a thing is taken out of it."""
    for place, lot in enumerate(more):
        for thing in things(lot):
            rest = plain.number(things(lot) - {thing})
            if more[:place] + ([rest] if rest else []) + more[place + 1:] == row:
                return True
    return False


def is_closed(history, row):
    own = row_buyers(history, row)
    mores = [more for more in all_rows(history[0], weight(row) + 1) if weight(more) == weight(row) + 1]
    return not any(is_one_more(history[0], row, more) and len(row_buyers(history, more)) == len(own)
                   for more in mores)


def closed_rows(history, least, most):
    return [told for told in often_rows(history, least, most) if is_closed(history, told[0])]


def row_holds(history, row, paper):
    if len(paper) != len(history[1]):
        return False
    for visits, (word, places) in zip(history[1], paper):
        if word == "fits" and places in fits(visits, row):
            continue
        lengths = [length for length in range(len(row) + 1) if fits(visits, row[:length])]
        stuck = len(row) not in lengths and places == first_fit(visits, row[:max(lengths)])
        if word != "stuck" or not stuck:
            return False
    return True


def histories(chance, how_many, most_things, most_buyers, most_visits):
    for turn in range(how_many):
        many = chance.randint(1, most_things)
        buyers = []
        for place in range(chance.randint(0, most_buyers)):
            # A visit without things now and then, and buyers that are alike.
            visits = [chance.choice([0, chance.randrange(2 ** many), chance.randrange(2 ** many)])
                      for visit in range(chance.randint(0, most_visits))]
            buyers.append(list(chance.choice(buyers)) if buyers and chance.random() < 0.2 else visits)
        yield (many, buyers)


def part_of(book, places):
    return (book[0], [book[1][place] for place in places])


def from_part(book, least, places, lower):
    missed = [(lot, count(book, lot)) for lot in plain.least_rare(part_of(book, places), lower)
              if count(book, lot) >= least]
    return ("missed", missed) if missed else ("whole", plainlevels.often(book, least))


def gone_on(book, least, places, lower):
    part = part_of(book, places)
    counted = {row[0] for row in plainlevels.often(part, lower)} | set(plain.least_rare(part, lower))
    rounds = 0
    while True:
        taken = {lot for lot in counted if count(book, lot) >= least}
        asked = {lot for lot in lots_of(book[0]) if lot not in taken and set(fewer(lot)) <= taken} - counted
        if not asked:
            return ([(lot, count(book, lot)) for lot in sorted(taken)], rounds)
        counted |= asked
        rounds += 1
