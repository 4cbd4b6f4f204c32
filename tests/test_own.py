"""Point [2]: kinds, what is handed in stays, what is told is the asker's own."""

import copy
import unittest

import plain
import plainlevels
import plainrules
from oftenlots.books import closing, common, count, holders, is_closed
from oftenlots.closed import closed_holds, closed_lots, closed_paper, going
from oftenlots.columns import by_columns, column_of, columns, gone
from oftenlots.fewrules import few_rules, served, short_rules, way
from oftenlots.leastlots import all_least, by_closed, by_least, kin, least_lots
from oftenlots.levels import border, levels, often, whole_holds, whole_paper
from oftenlots.neighbours import above, baskets_of, below, join, just, longest, meet
from oftenlots.paths import cut_tree, ends, grown, order, tree_of
from oftenlots.rules import brought_on, follow_holds, follows, holds, rule_count, share
from oftenlots.texts import read_day, read_lot, read_rule, show_day, show_lot, show_rule

BAD = object()
NONE = type(None)

# The kinds of what each tells, and of what stands in it where it is a list.
KINDS = {
    count: [int], holders: [list, int], common: [int], closing: [int], is_closed: [bool],
    closed_lots: [list, tuple], going: [list, tuple], closed_paper: [list, tuple], closed_holds: [bool],
    least_lots: [list, int], all_least: [list, tuple], by_closed: [int, NONE], by_least: [int, NONE], kin: [int],
    above: [list, int], below: [list, int], meet: [int], join: [int], longest: [list, int], just: [list, tuple],
    baskets_of: [list, int],
    rule_count: [int], share: [tuple, NONE], holds: [bool], brought_on: [tuple], follows: [tuple],
    follow_holds: [bool],
    few_rules: [list, tuple], served: [list, int, NONE], way: [list, int], short_rules: [list, tuple],
    show_lot: [str], show_rule: [str], show_day: [str], read_lot: [int], read_rule: [tuple], read_day: [list, int],
    often: [list, tuple], border: [list, tuple], levels: [list], whole_paper: [tuple], whole_holds: [bool],
    order: [list, int], tree_of: [list, tuple], ends: [list, tuple], cut_tree: [list, tuple], grown: [list, tuple],
    columns: [list, int], column_of: [int], gone: [list, tuple], by_columns: [list, tuple],
}


# In the second one several lots have no holders, so that several lists are empty; the third has no baskets.
BOOKS = [(4, [3, 7, 0, 1, 3, 15, 12]), (3, [1, 2, 4, 0, 1, 2]), (3, [])]


def questions():
    """Each a function and what is handed in: made anew at each call, so that a test may change it."""
    asked = []
    for book in BOOKS:
        asked += questions_of(book)
    asked += [(common, BOOKS[0], [1, 0, 1]), (common, BOOKS[0], [3])]
    return [(row[0], copy.deepcopy(row[1:])) for row in asked]


def questions_of(book):
    whole = 2 ** book[0] - 1
    asked = [(common, book, []), (closed_lots, book, plain.FORTY), (least_lots, book, whole), (kin, book, whole)]
    for lot in (0, 1, 2, 3, whole):
        asked += [(ask, book, lot) for ask in (count, holders, closing, is_closed)]
    for least in (1, 2, 3):
        closed = plain.closed_lots(book, least)
        leasts = plain.all_least(book, least)
        rares = plain.least_rare(book, least)
        paper = plain.closed_paper(book, least)
        asked += [(ask, book, least) for ask in (closed_lots, going, closed_paper, all_least)]
        asked += [(closed_holds, book, least, paper), (closed_holds, book, least, paper[:-1])]
        asked += [(by_closed, closed, 2), (by_closed, closed, whole)]
        asked += [(by_least, leasts, rares, 2), (by_least, leasts, rares, whole)]
    asked += neighbour_questions(book) + rule_questions(book)
    return asked + text_questions(book) + level_questions(book) + path_questions(book)


def neighbour_questions(book):
    asked = [(meet, 5, 6), (join, book, 0, 0), (join, book, 1, 2)]
    asked += [(ask, plain.closed_lots(book, 1)) for ask in (just, baskets_of)]
    for least in (1, 2, 3):
        closed = plain.closed_lots(book, least)
        asked += [(longest, closed)]
        for lot, own in closed:
            asked += [(ask, closed, lot) for ask in (above, below)]
            asked += [(way, closed, closed[0][0], lot), (way, closed, lot, lot)]
    return asked


def rule_questions(book):
    whole = 2 ** book[0] - 1
    rules = plainrules.few_rules(book)
    asked = [(few_rules, book), (served, book, rules), (served, book, rules[1:] + rules), (served, book, [])]
    for rule in ((0, 0), (1, 2), (2, 1), (4, 3), (whole, 0), (0, whole)):
        asked += [(ask, book, rule) for ask in (rule_count, share, holds)]
        asked += [(follows, rules, rule), (follow_holds, rules, rule, plainrules.follows(rules, rule))]
        asked += [(follow_holds, rules, rule, ("by", [0, 0, 1])), (follow_holds, rules, rule, ("shut", whole))]
        asked += [(brought_on, rules, rule[0]), (follows, [], rule), (brought_on, [], rule[0])]
    asked += [(short_rules, book, least, told) for least in (1, 2) for told in ((0, 1), (2, 3), (2, 1))]
    return asked


def text_questions(book):
    names = ["tea", "milk", "bun", "jam"]
    asked = [(show_day, names, book[1]), (show_day, names, []), (read_day, names, "none"), (read_day, names, "-; bun")]
    for lot, text in ((0, "-"), (1, "tea"), (7, "tea milk bun")):
        asked += [(show_lot, names, lot), (show_rule, names, (lot, 2))]
        asked += [(read_lot, names, text), (read_rule, names, text + " => milk jam")]
    return asked


def level_questions(book):
    asked = []
    for least in (1, 2, 3, plain.FORTY):
        asked += [(ask, book, least) for ask in (often, border, levels, whole_paper)]
        paper = whole_paper(book, least)
        asked += [(whole_holds, book, least, paper), (whole_holds, book, least, (paper[0][:-1], paper[1][:-1]))]
        asked += [(ask, book, least) for ask in (gone, by_columns)]
    return asked + [(columns, book), (column_of, book, 0), (column_of, book, 3)]


def path_questions(book):
    asked = []
    for least in (1, 2, 3, plain.FORTY):
        tree = plainlevels.tree_of(book, least)
        asked += [(ask, book, least) for ask in (order, tree_of, grown)]
        asked += [(ends, tree)] + [(cut_tree, tree, thing, least) for thing in (0, 1, 2, 9)]
    return asked


def spoil(value):
    """Changes every list within, the inner ones first."""
    for inner in reversed(list(plain.lists_in(value))):
        inner.reverse()
        inner.append(BAD)


class Kinds(unittest.TestCase):
    def test_told_values_are_of_plain_kinds(self):
        for ask, handed in questions():
            for part in plain.all_in(ask(*handed)):
                with self.subTest(ask=ask.__name__):
                    self.assertIn(type(part), (int, bool, str, list, tuple, type(None)))

    def test_outer_kinds(self):
        met = {ask: [] for ask in KINDS}
        for ask, handed in questions():
            told = ask(*handed)
            met[ask].append(type(told))
            if type(told) is list:
                met[ask] += [type(part) for part in told]
        for ask, kinds in met.items():
            with self.subTest(ask=ask.__name__):
                self.assertEqual(set(kinds), set(KINDS[ask]))

    def test_truths_only_where_a_truth_is_told(self):
        for ask, handed in questions():
            if bool not in KINDS[ask]:
                self.assertFalse(any(isinstance(part, bool) for part in plain.all_in(ask(*handed))))

    def test_inner_kinds(self):
        for row in closed_paper((2, [0, 1]), 1):
            self.assertIs(type(row[2]), list)
            self.assertTrue(all(type(reason) is tuple for reason in row[2]))
        self.assertIs(type(brought_on([(1, 2)], 1)[1]), list)
        self.assertIs(type(follows([(1, 2)], (1, 2))[1]), list)
        self.assertIs(type(follows([(1, 2)], (1, 4))[1]), int)
        self.assertTrue(all(type(row[3]) is tuple for row in short_rules(BOOKS[0], 1, (0, 1))))
        for level in levels(BOOKS[0], 1):
            self.assertIs(type(level), list)
            self.assertTrue(all(type(row) is tuple for row in level))
        for rows in whole_paper(BOOKS[0], 2):
            self.assertIs(type(rows), list)
            self.assertEqual({(type(row), type(row[1])) for row in rows}, {(tuple, list)})


class HandedIn(unittest.TestCase):
    def test_it_stays(self):
        for ask, handed in questions():
            before = copy.deepcopy(handed)
            ask(*handed)
            with self.subTest(ask=ask.__name__):
                self.assertEqual(handed, before)

    def test_what_was_told_stays_behind_changes_of_it(self):
        for ask, handed in questions():
            told = ask(*handed)
            as_told = copy.deepcopy(told)
            spoil(handed)
            with self.subTest(ask=ask.__name__):
                self.assertEqual(told, as_told)

    def test_a_changed_list_is_answered_as_it_stands_then(self):
        book = (3, [3, 7, 0])
        others = [[1, 1, 6, 7], [], [7] * 5, [0]]
        for baskets in others:
            for ask in (closed_lots, going, closed_paper, all_least):
                ask(book, 1)
            book[1][:] = baskets
            fresh = (3, list(baskets))
            self.assertEqual(closed_lots(book, 1), plain.closed_lots(fresh, 1))
            self.assertEqual(going(book, 1), plain.going(fresh, 1))
            self.assertEqual(closed_paper(book, 1), plain.closed_paper(fresh, 1))
            self.assertEqual(all_least(book, 1), plain.all_least(fresh, 1))
            self.assertEqual(holders(book, 1), plain.holders(fresh, 1))
            self.assertEqual(count(book, 1), plain.count(fresh, 1))
            self.assertEqual(closing(book, 1), plain.closing(fresh, 1))
            self.assertEqual(least_lots(book, 7), plain.least_lots(fresh, 7))
            self.assertEqual(kin(book, 7), plain.kin(fresh, 7))
            self.assertEqual(few_rules(book), plainrules.few_rules(fresh))
            self.assertEqual(served(book, [(0, 7)]), plainrules.served(fresh, [(0, 7)]))
            self.assertEqual(short_rules(book, 1, (0, 1)), plainrules.short_rules(fresh, 1, (0, 1)))
            self.assertEqual(share(book, (1, 2)), plainrules.share(fresh, (1, 2)))
            self.assertEqual(join(book, 1, 2), plain.closing(fresh, 3))
            for ask in (often, grown, by_columns):
                self.assertEqual(ask(book, 1), plainlevels.often(fresh, 1))
            self.assertEqual(border(book, 2), plainlevels.border(fresh, 2))
            self.assertEqual(levels(book, 2), plainlevels.levels(fresh, 2))
            self.assertTrue(plainlevels.whole_holds(fresh, 1, whole_paper(book, 1)))
            self.assertEqual(order(book, 1), plainlevels.order(fresh, 1))
            self.assertEqual(tree_of(book, 1), plainlevels.tree_of(fresh, 1))
            self.assertEqual(columns(book), [plainlevels.column_of(fresh, lot) for lot in (1, 2, 4)])
            self.assertEqual(column_of(book, 0), plainlevels.column_of(fresh, 0))
            self.assertEqual(gone(book, 1), plainlevels.gone(fresh, 1))

    def test_a_changed_tree_is_answered_as_it_stands_then(self):
        tree = [(-1, -1, 2), (0, 0, 2), (1, 1, 1)]
        self.assertEqual(ends(tree), [(1, 1), (3, 1)])
        self.assertEqual(cut_tree(tree, 1, 1), [(-1, -1, 1), (0, 0, 1)])
        tree.pop()
        self.assertEqual(ends(tree), [(1, 2)])
        self.assertEqual(cut_tree(tree, 1, 1), [(-1, -1, 0)])

    def test_changed_rules_and_closed_lots_are_answered_as_they_stand_then(self):
        rules = [(1, 2)]
        self.assertEqual(brought_on(rules, 1), (3, [0]))
        rules.insert(0, (1, 4))
        self.assertEqual(brought_on(rules, 1), (7, [0, 1]))
        self.assertEqual(follows(rules, (1, 2)), ("by", [0, 1]))
        rules.pop()
        self.assertEqual(follows(rules, (1, 2)), ("shut", 5))
        closed = [(0, 5), (1, 4), (3, 3), (7, 1)]
        self.assertEqual((above(closed, 1), longest(closed)), ([3], [0, 1, 3, 7]))
        closed.pop(2)
        self.assertEqual((above(closed, 1), longest(closed)), ([7], [0, 1, 7]))
        self.assertEqual((below(closed, 7), way(closed, 0, 7)), ([1], [0, 1, 7]))
        self.assertEqual(baskets_of(closed), [0, 1, 1, 1, 7])

    def test_changing_it_behind_changes_no_answer_of_a_like_one(self):
        first = [ask(*handed) for ask, handed in questions()]
        for ask, handed in questions():
            ask(*handed)
            spoil(handed)
        self.assertEqual([ask(*handed) for ask, handed in questions()], first)

    def test_a_looked_at_paper_that_is_changed_is_looked_at_anew(self):
        book = (2, [0, 1])
        paper = closed_paper(book, 1)
        self.assertIs(closed_holds(book, 1, paper), True)
        paper[0][2].pop()
        self.assertIs(closed_holds(book, 1, paper), False)
        paper = whole_paper(book, 1)
        self.assertIs(whole_holds(book, 1, paper), True)
        paper[1].pop()
        self.assertIs(whole_holds(book, 1, paper), False)


class AskersOwn(unittest.TestCase):
    def test_each_list_stands_at_one_place_alone(self):
        for ask, handed in questions():
            inner = list(plain.lists_in(ask(*handed)))
            with self.subTest(ask=ask.__name__):
                self.assertEqual(len({id(one) for one in inner}), len(inner))

    def test_no_list_is_one_that_was_handed_in(self):
        for ask, handed in questions():
            theirs = {id(one) for one in plain.lists_in(handed)}
            self.assertFalse(any(id(one) in theirs for one in plain.lists_in(ask(*handed))))

    def test_no_list_is_told_twice(self):
        for ask, handed in questions():
            first = ask(*handed)
            again = ask(*handed)
            theirs = {id(one) for one in plain.lists_in(first)}
            self.assertFalse(any(id(one) in theirs for one in plain.lists_in(again)))

    def test_changing_what_was_told_changes_no_later_answer(self):
        for ask, handed in questions():
            told = ask(*handed)
            as_told = copy.deepcopy(told)
            spoil(told)
            with self.subTest(ask=ask.__name__):
                self.assertEqual(ask(*handed), as_told)

    def test_changing_what_was_told_changes_no_answer_of_a_like_question(self):
        as_told = copy.deepcopy([ask(*handed) for ask, handed in questions()])
        for ask, handed in questions():
            spoil(ask(*handed))
        self.assertEqual([ask(*handed) for ask, handed in questions()], as_told)

    def test_the_same_is_answered_the_same_behind_all_other_questions(self):
        told = [ask(*handed) for ask, handed in questions()]
        as_told = copy.deepcopy(told)
        for book in plain.small_books(15):
            for least in (1, 2):
                closed_paper(book, least)
                going(book, least)
                all_least(book, least)
                kin(book, 2 ** book[0] - 1)
                closed = closed_lots(book, least)
                longest(closed)
                short_rules(book, least, (0, 1))
            rules = few_rules(book)
            served(book, rules)
            follows(rules, (0, 2 ** book[0] - 1))
            baskets_of(closed_lots(book, 1))
            whole_paper(book, 1)
            levels(book, 2)
            ends(cut_tree(tree_of(book, 1), 0, 1))
            grown(book, 1)
            gone(book, 1)
        self.assertEqual(told, as_told)
        self.assertEqual([ask(*handed) for ask, handed in reversed(questions())], as_told[::-1])
        self.assertEqual(told, as_told)


class GreatNumbers(unittest.TestCase):
    def test_time_does_not_hang_on_them(self):
        book = plain.widest_book()
        great = plain.FORTY
        row = (great, great, [(great, "leads", great), (-great, "rare", [great, -great])])
        papers = [[row], [(-great,) + row[1:]], [(0,) + row[1:]], [(0, 200, row[2])], [(0, 200, [])],
                  [(2 ** 12, 0, [])], [(great - 1, 0, []), (great, 0, [])]]
        with plain.within_seconds(60):
            self.assertEqual(closed_lots(book, great), [])
            self.assertEqual(going(book, great), [])
            self.assertEqual(closed_paper(book, great), [])
            self.assertEqual(all_least((8, [255] * 60), great), [])
            for paper in papers:
                self.assertIs(closed_holds(book, 1, paper), False)
                self.assertIs(closed_holds(book, great, paper), False)
                self.assertIs(closed_holds((1, []), 1, paper), False)
            self.assertIs(closed_holds(book, great, []), True)

    def test_of_rules(self):
        great = plain.FORTY
        rules = [(great, great - 1), (0, great), (1, 2)]
        with plain.within_seconds(10):
            self.assertEqual(brought_on(rules, 0), (great, [1]))
            self.assertEqual(follows(rules, (great, 0)), ("by", []))
            self.assertIs(follow_holds(rules, (1, 2), ("by", [2, great])), False)
            self.assertIs(follow_holds(rules, (1, 2), ("by", [-great])), False)
            self.assertIs(follow_holds(rules, (1, 2), ("shut", great)), False)
            self.assertIs(follow_holds(rules, (1, 2), ("shut", -great)), False)
            self.assertIs(follow_holds([], (1, 2 ** 200), ("shut", great)), True)
            self.assertEqual(short_rules(BOOKS[0], great, (great, great)), [])
            self.assertEqual(short_rules(BOOKS[0], 1, (great, 1)), [])
            self.assertEqual(meet(great, great), great)

    def test_of_levels_paths_and_columns(self):
        great = plain.FORTY
        book = (12, [4095] * 60)
        with plain.within_seconds(10):
            for ask in (often, levels, order, grown, gone, by_columns):
                self.assertEqual(ask(book, great), [])
            self.assertEqual(border(book, great), [(0, 60)])
            self.assertEqual(tree_of(book, great), [(-1, -1, 60)])
            self.assertEqual(cut_tree(tree_of(book, 1), great, great), [(-1, -1, 0)])
            self.assertEqual(cut_tree(tree_of(book, 1), 11, great), [(-1, -1, 60)])
            self.assertIs(whole_holds(book, great, whole_paper(book, great)), True)
            self.assertIs(whole_holds(book, 1, ([(0, [great] * 60)], [(great, [-great] * 60)])), False)


if __name__ == "__main__":
    unittest.main()
