"""The questions that tests/test_own.py asks of every function, and of what kinds their answers are."""

import copy

import plain
import plainapart
import plainlevels
import plainrules
from oftenlots.apart import least_parting, parting_holds, parting_paper, parts
from oftenlots.books import closing, common, count, holders, is_closed
from oftenlots.closed import closed_holds, closed_lots, closed_paper, going
from oftenlots.columns import by_columns, column_of, columns, gone
from oftenlots.dealings import by_surprise, mean, surprise, together
from oftenlots.fewrules import few_rules, served, short_rules, way
from oftenlots.greatest import crossings, greatest, outside, part_all
from oftenlots.leastlots import all_least, by_closed, by_least, kin, least_lots
from oftenlots.levels import border, levels, often, whole_holds, whole_paper
from oftenlots.neighbours import above, baskets_of, below, join, just, longest, meet
from oftenlots.papertexts import read_closed, read_parting, read_whole, show_closed, show_parting, show_whole
from oftenlots.paths import cut_tree, ends, grown, order, tree_of
from oftenlots.rooms import count_again, ends_of_room, filled, lesser_counts, open_lots, room, settled
from oftenlots.rows import (closed_rows, first_fit, last_fit, lies_in, often_rows, row_buyers, row_count, row_holds,
                            row_paper, short_fit)
from oftenlots.rules import brought_on, follow_holds, follows, holds, rule_count, share
from oftenlots.sample import from_part, gone_on
from oftenlots.texts import read_day, read_lot, read_rule, show_day, show_lot, show_rule

NONE = type(None)

# The kinds of what each tells, and of what stands in it where it is a list.
KINDS = {
    count: [int], holders: [list, int], common: [int], closing: [int], is_closed: [bool],
    closed_lots: [list, tuple], going: [list, tuple], closed_paper: [list, tuple], closed_holds: [bool],
    least_lots: [list, int], all_least: [list, tuple], by_closed: [int, NONE], by_least: [int, NONE], kin: [int],
    above: [list, int], below: [list, int], meet: [int], join: [int], longest: [list, int], just: [list, tuple],
    baskets_of: [list, int],
    rule_count: [int], share: [tuple, NONE], holds: [bool], brought_on: [tuple], follows: [tuple],
    follow_holds: [bool],
    few_rules: [list, tuple], served: [list, int, NONE], way: [list, int], short_rules: [list, tuple],
    show_lot: [str], show_rule: [str], show_day: [str], read_lot: [int], read_rule: [tuple], read_day: [list, int],
    often: [list, tuple], border: [list, tuple], levels: [list], whole_paper: [tuple], whole_holds: [bool],
    order: [list, int], tree_of: [list, tuple], ends: [list, tuple], cut_tree: [list, tuple], grown: [list, tuple],
    columns: [list, int], column_of: [int], gone: [list, tuple], by_columns: [list, tuple],
    greatest: [list, tuple], crossings: [list, int], outside: [int], part_all: [bool],
    lesser_counts: [list, tuple], room: [tuple, NONE], ends_of_room: [tuple, NONE], filled: [list, int],
    settled: [bool], open_lots: [list, tuple], count_again: [int, NONE],
    together: [list, tuple], mean: [tuple], surprise: [tuple], by_surprise: [list, int],
    parts: [bool], least_parting: [list, tuple], parting_paper: [tuple], parting_holds: [bool],
    first_fit: [list, int, NONE], last_fit: [list, int, NONE], short_fit: [list, int, NONE], row_count: [int],
    row_buyers: [list, int], lies_in: [bool], often_rows: [list, tuple], closed_rows: [list, tuple],
    row_paper: [list, tuple], row_holds: [bool],
    show_whole: [str], show_closed: [str], show_parting: [str], read_whole: [tuple], read_closed: [list, tuple],
    read_parting: [tuple], from_part: [tuple], gone_on: [tuple],
}


# In the second one several lots have no holders, so that several lists are empty; the third has no baskets.
BOOKS = [(4, [3, 7, 0, 1, 3, 15, 12]), (3, [1, 2, 4, 0, 1, 2]), (3, [])]


def questions():
    """Each a function and what is handed in: made anew at each call, so that a test may change it."""
    asked = []
    for book in BOOKS:
        asked += questions_of(book)
    asked += [(common, BOOKS[0], [1, 0, 1]), (common, BOOKS[0], [3])]
    return [(row[0], copy.deepcopy(row[1:])) for row in asked]


def questions_of(book):
    whole = 2 ** book[0] - 1
    asked = [(common, book, []), (closed_lots, book, plain.FORTY), (least_lots, book, whole), (kin, book, whole)]
    for lot in (0, 1, 2, 3, whole):
        asked += [(ask, book, lot) for ask in (count, holders, closing, is_closed)]
    for least in (1, 2, 3):
        closed = plain.closed_lots(book, least)
        leasts = plain.all_least(book, least)
        rares = plain.least_rare(book, least)
        paper = plain.closed_paper(book, least)
        asked += [(ask, book, least) for ask in (closed_lots, going, closed_paper, all_least)]
        asked += [(closed_holds, book, least, paper), (closed_holds, book, least, paper[:-1])]
        asked += [(by_closed, closed, 2), (by_closed, closed, whole)]
        asked += [(by_least, leasts, rares, 2), (by_least, leasts, rares, whole)]
    asked += neighbour_questions(book) + rule_questions(book)
    asked += text_questions(book) + level_questions(book) + path_questions(book)
    asked += greatest_questions(book) + room_questions(book) + dealing_questions(book) + apart_questions(book)
    return asked + row_questions(book) + paper_text_questions(book) + sample_questions(book)


def neighbour_questions(book):
    asked = [(meet, 5, 6), (join, book, 0, 0), (join, book, 1, 2)]
    asked += [(ask, plain.closed_lots(book, 1)) for ask in (just, baskets_of)]
    for least in (1, 2, 3):
        closed = plain.closed_lots(book, least)
        asked += [(longest, closed)]
        for lot, own in closed:
            asked += [(ask, closed, lot) for ask in (above, below)]
            asked += [(way, closed, closed[0][0], lot), (way, closed, lot, lot)]
    return asked


def rule_questions(book):
    whole = 2 ** book[0] - 1
    rules = plainrules.few_rules(book)
    asked = [(few_rules, book), (served, book, rules), (served, book, rules[1:] + rules), (served, book, [])]
    for rule in ((0, 0), (1, 2), (2, 1), (4, 3), (whole, 0), (0, whole)):
        asked += [(ask, book, rule) for ask in (rule_count, share, holds)]
        asked += [(follows, rules, rule), (follow_holds, rules, rule, plainrules.follows(rules, rule))]
        asked += [(follow_holds, rules, rule, ("by", [0, 0, 1])), (follow_holds, rules, rule, ("shut", whole))]
        asked += [(brought_on, rules, rule[0]), (follows, [], rule), (brought_on, [], rule[0])]
    asked += [(short_rules, book, least, told) for least in (1, 2) for told in ((0, 1), (2, 3), (2, 1))]
    return asked


def text_questions(book):
    names = ["tea", "milk", "bun", "jam"]
    asked = [(show_day, names, book[1]), (show_day, names, []), (read_day, names, "none"), (read_day, names, "-; bun")]
    for lot, text in ((0, "-"), (1, "tea"), (7, "tea milk bun")):
        asked += [(show_lot, names, lot), (show_rule, names, (lot, 2))]
        asked += [(read_lot, names, text), (read_rule, names, text + " => milk jam")]
    return asked


def level_questions(book):
    asked = []
    for least in (1, 2, 3, plain.FORTY):
        asked += [(ask, book, least) for ask in (often, border, levels, whole_paper)]
        paper = whole_paper(book, least)
        asked += [(whole_holds, book, least, paper), (whole_holds, book, least, (paper[0][:-1], paper[1][:-1]))]
        asked += [(ask, book, least) for ask in (gone, by_columns)]
    return asked + [(columns, book), (column_of, book, 0), (column_of, book, 3)]


def path_questions(book):
    asked = []
    for least in (1, 2, 3, plain.FORTY):
        tree = plainlevels.tree_of(book, least)
        asked += [(ask, book, least) for ask in (order, tree_of, grown)]
        asked += [(ends, tree)] + [(cut_tree, tree, thing, least) for thing in (0, 1, 2, 9)]
    return asked


def greatest_questions(book):
    many = book[0]
    asked = [(crossings, many, []), (crossings, many, [0, 1]), (crossings, many, list(book[1]))]
    asked += [(outside, many, lot) for lot in (0, 1, 6)]
    for least in (1, 2, 3, plain.FORTY):
        great = [row[0] for row in plainapart.greatest(book, least)]
        small = plain.least_rare(book, least)
        asked += [(greatest, book, least), (crossings, many, small)]
        asked += [(part_all, many, great, small), (part_all, many, great, small[1:])]
    return asked


def room_questions(book):
    asked = []
    for lot in (1, 2, 3, 5, 7):
        counts = plainapart.lesser_counts(book[1], lot)
        low, high = plainapart.room(lot, counts)
        asked += [(lesser_counts, book, lot), (settled, book, lot)]
        for handed in (counts, [(part, its - 3) for part, its in counts], [(part, -1) for part, its in counts]):
            asked += [(room, lot, handed), (ends_of_room, lot, handed)]
        asked += [(filled, lot, counts, number) for number in (low, high)]
    for least in (1, 2, 3):
        opened = plainapart.open_lots(book, least)
        asked += [(open_lots, book, least)] + [(count_again, opened, least, lot) for lot in range(8)]
    return asked + [(settled, book, 0)]


def dealing_questions(book):
    asked = [(together, 0, [0]), (together, 5, [2, 3, 5]), (mean, 0, [0, 0]), (mean, 5, [2, 3, 5]), (mean, 6, [6])]
    if book[1]:
        asked += [(surprise, book, lot) for lot in (1, 3, 5, 7)]
        asked += [(by_surprise, book, lots) for lots in ([], [3], [7, 6, 3, 5])]
    return asked


def apart_questions(book):
    asked = []
    for other in ((book[0], []), (book[0], [3, 4, 0]), (book[0], [1, 2])):
        for one, its in ((book, other), (other, book), (book, book)):
            paper = parting_paper(one, its)
            asked += [(parts, one, its, lot) for lot in (0, 1, 3, 7)]
            asked += [(least_parting, one, its), (parting_paper, one, its), (parting_holds, one, its, paper)]
            asked += [(parting_holds, one, its, (paper[0][:-1], paper[1])), (parting_holds, its, one, paper)]
    return asked


def row_questions(book):
    history = (book[0], [book[1], book[1][:2], [], [0, 3, 0, 3]])
    asked = [(ask, history, least, most) for ask in (often_rows, closed_rows) for least in (1, 2) for most in (0, 2)]
    for row in ([], [1], [3, 1], [2, 2], [7, 1, 1]):
        paper = row_paper(history, row)
        asked += [(ask, visits, row) for ask in (first_fit, last_fit, short_fit) for visits in history[1]]
        asked += [(ask, history, row) for ask in (row_count, row_buyers, row_paper)]
        asked += [(row_holds, history, row, paper), (row_holds, history, row, paper[:-1]), (lies_in, row, [3, 3])]
    return asked


def paper_text_questions(book):
    asked = []
    for least in (1, 2, plain.FORTY):
        for show, read, paper in ((show_whole, read_whole, whole_paper(book, least)),
                                  (show_closed, read_closed, closed_paper(book, least)),
                                  (show_parting, read_parting, parting_paper(book, (book[0], [1, 6])))):
            asked += [(show, paper), (read, show(paper))]
    return asked


def sample_questions(book):
    places = list(range(len(book[1])))
    return [(ask, book, least, some, lower) for ask in (from_part, gone_on) for least in (1, 3)
            for some in ([], places, places[::-2]) for lower in (1, 2, plain.FORTY)]
