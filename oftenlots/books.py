"""Books of baskets: which baskets have a lot, and what they have in common.

A book is a tuple (many, baskets): how many things there are, and a list of lots.
"""

from oftenlots.lots import has, things_below


def count(book, lot):
    return len(holders(book, lot))


def holders(book, lot):
    return [place for place, basket in enumerate(book[1]) if has(basket, lot)]


def common(book, places):
    # Begun with all things: that is what no places have in common.
    shared = things_below(book[0])
    for place in places:
        shared = shared & book[1][place]
    return shared


def closing(book, lot):
    return common(book, holders(book, lot))


def is_closed(book, lot):
    return closing(book, lot) == lot
