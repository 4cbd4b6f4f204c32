"""Point [2]: kinds, what is handed in stays, what is told is the asker's own."""

import copy
import unittest

import plain
import plainapart
import plainlevels
import plainrules
from asked import BOOKS, KINDS, questions
from oftenlots.apart import least_parting, parting_holds, parting_paper, parts
from oftenlots.books import closing, common, count, holders, is_closed
from oftenlots.closed import closed_holds, closed_lots, closed_paper, going
from oftenlots.columns import by_columns, column_of, columns, gone
from oftenlots.dealings import by_surprise, mean, surprise, together
from oftenlots.errors import NoRoom
from oftenlots.fewrules import few_rules, served, short_rules, way
from oftenlots.greatest import crossings, greatest, part_all
from oftenlots.leastlots import all_least, by_closed, by_least, kin, least_lots
from oftenlots.levels import border, levels, often, whole_holds, whole_paper
from oftenlots.neighbours import above, baskets_of, below, join, just, longest, meet
from oftenlots.papertexts import read_closed, read_parting, read_whole, show_closed, show_parting, show_whole
from oftenlots.paths import cut_tree, ends, grown, order, tree_of
from oftenlots.rooms import count_again, ends_of_room, filled, lesser_counts, open_lots, room, settled
from oftenlots.rows import closed_rows, first_fit, last_fit, often_rows, row_buyers, row_holds, row_paper, short_fit
from oftenlots.rules import brought_on, follow_holds, follows, holds, rule_count, share
from oftenlots.sample import from_part, gone_on
from oftenlots.shop import Shop
from oftenlots.texts import read_day, read_lot, read_rule, show_day, show_lot, show_rule

BAD = object()


def spoil(value):
    """Changes every list within, the inner ones first."""
    for inner in reversed(list(plain.lists_in(value))):
        inner.reverse()
        inner.append(BAD)


class Kinds(unittest.TestCase):
    def test_told_values_are_of_plain_kinds(self):
        for ask, handed in questions():
            for part in plain.all_in(ask(*handed)):
                with self.subTest(ask=ask.__name__):
                    self.assertIn(type(part), (int, bool, str, list, tuple, type(None)))

    def test_outer_kinds(self):
        met = {ask: [] for ask in KINDS}
        for ask, handed in questions():
            told = ask(*handed)
            met[ask].append(type(told))
            if type(told) is list:
                met[ask] += [type(part) for part in told]
        for ask, kinds in met.items():
            with self.subTest(ask=ask.__name__):
                self.assertEqual(set(kinds), set(KINDS[ask]))

    def test_truths_only_where_a_truth_is_told(self):
        for ask, handed in questions():
            if bool not in KINDS[ask]:
                self.assertFalse(any(isinstance(part, bool) for part in plain.all_in(ask(*handed))))

    def test_inner_kinds(self):
        for row in closed_paper((2, [0, 1]), 1):
            self.assertIs(type(row[2]), list)
            self.assertTrue(all(type(reason) is tuple for reason in row[2]))
        self.assertIs(type(brought_on([(1, 2)], 1)[1]), list)
        self.assertIs(type(follows([(1, 2)], (1, 2))[1]), list)
        self.assertIs(type(follows([(1, 2)], (1, 4))[1]), int)
        self.assertTrue(all(type(row[3]) is tuple for row in short_rules(BOOKS[0], 1, (0, 1))))
        for level in levels(BOOKS[0], 1):
            self.assertIs(type(level), list)
            self.assertTrue(all(type(row) is tuple for row in level))
        for rows in whole_paper(BOOKS[0], 2):
            self.assertIs(type(rows), list)
            self.assertEqual({(type(row), type(row[1])) for row in rows}, {(tuple, list)})
        rows, leads = parting_paper((2, [3, 0]), (2, [0]))
        self.assertEqual([type(part) for part in (rows, leads)], [list, list])
        self.assertEqual([type(part) for part in rows[0]], [int, int, list, list])
        self.assertEqual([[type(part) for part in lead] for lead in leads], [[str, int], [str, int]])
        for told in (together(5, [2, 3]), [mean(5, [2, 3])], [surprise(BOOKS[0], 3)], [room(1, [(0, 2)])],
                     [ends_of_room(1, [(0, 2)])]):
            self.assertTrue(all([type(part) for part in pair] == [int, int] for pair in told))
        history = (2, [[1, 2], [3]])
        for told in (often_rows(history, 1, 2), closed_rows(history, 1, 2)):
            self.assertTrue(all([type(part) for part in row] == [list, int] for row in told))
        self.assertTrue(all([type(part) for part in row] == [str, list] for row in row_paper(history, [1, 2])))
        self.assertEqual([type(part) for part in from_part(BOOKS[0], 1, [0], 1)], [str, list])
        self.assertEqual([type(part) for part in gone_on(BOOKS[0], 1, [0], 1)], [list, int])


class HandedIn(unittest.TestCase):
    def test_it_stays(self):
        for ask, handed in questions():
            before = copy.deepcopy(handed)
            ask(*handed)
            with self.subTest(ask=ask.__name__):
                self.assertEqual(handed, before)

    def test_what_was_told_stays_behind_changes_of_it(self):
        for ask, handed in questions():
            told = ask(*handed)
            as_told = copy.deepcopy(told)
            spoil(handed)
            with self.subTest(ask=ask.__name__):
                self.assertEqual(told, as_told)

    def test_a_changed_list_is_answered_as_it_stands_then(self):
        book = (3, [3, 7, 0])
        others = [[1, 1, 6, 7], [], [7] * 5, [0]]
        for baskets in others:
            for ask in (closed_lots, going, closed_paper, all_least):
                ask(book, 1)
            book[1][:] = baskets
            fresh = (3, list(baskets))
            self.assertEqual(closed_lots(book, 1), plain.closed_lots(fresh, 1))
            self.assertEqual(going(book, 1), plain.going(fresh, 1))
            self.assertEqual(closed_paper(book, 1), plain.closed_paper(fresh, 1))
            self.assertEqual(all_least(book, 1), plain.all_least(fresh, 1))
            self.assertEqual(holders(book, 1), plain.holders(fresh, 1))
            self.assertEqual(count(book, 1), plain.count(fresh, 1))
            self.assertEqual(closing(book, 1), plain.closing(fresh, 1))
            self.assertEqual(least_lots(book, 7), plain.least_lots(fresh, 7))
            self.assertEqual(kin(book, 7), plain.kin(fresh, 7))
            self.assertEqual(few_rules(book), plainrules.few_rules(fresh))
            self.assertEqual(served(book, [(0, 7)]), plainrules.served(fresh, [(0, 7)]))
            self.assertEqual(short_rules(book, 1, (0, 1)), plainrules.short_rules(fresh, 1, (0, 1)))
            self.assertEqual(share(book, (1, 2)), plainrules.share(fresh, (1, 2)))
            self.assertEqual(join(book, 1, 2), plain.closing(fresh, 3))
            for ask in (often, grown, by_columns):
                self.assertEqual(ask(book, 1), plainlevels.often(fresh, 1))
            self.assertEqual(border(book, 2), plainlevels.border(fresh, 2))
            self.assertEqual(levels(book, 2), plainlevels.levels(fresh, 2))
            self.assertTrue(plainlevels.whole_holds(fresh, 1, whole_paper(book, 1)))
            self.assertEqual(order(book, 1), plainlevels.order(fresh, 1))
            self.assertEqual(tree_of(book, 1), plainlevels.tree_of(fresh, 1))
            self.assertEqual(columns(book), [plainlevels.column_of(fresh, lot) for lot in (1, 2, 4)])
            self.assertEqual(column_of(book, 0), plainlevels.column_of(fresh, 0))
            self.assertEqual(gone(book, 1), plainlevels.gone(fresh, 1))
            self.assertEqual(greatest(book, 1), plainapart.greatest(fresh, 1))
            self.assertEqual(lesser_counts(book, 7), plainapart.lesser_counts(fresh[1], 7))
            self.assertEqual(settled(book, 3), plainapart.settled(fresh, 3))
            self.assertEqual(open_lots(book, 1), plainapart.open_lots(fresh, 1))
            other = (3, [1, 6])
            self.assertEqual(parts(book, other, 3), plainapart.parts(fresh, other, 3))
            self.assertEqual(least_parting(book, other), plainapart.least_parting(fresh, other))
            self.assertEqual(least_parting(other, book), plainapart.least_parting(other, fresh))
            self.assertTrue(plainapart.parting_holds(fresh, other, parting_paper(book, other)))
            if baskets:
                self.assertEqual(surprise(book, 3), plainapart.pair(plainapart.surprise(fresh, 3)))

    def test_changed_lists_of_lots_and_counts_are_answered_as_they_stand_then(self):
        lots = [3, 5]
        self.assertEqual(crossings(3, lots), [1, 6])
        lots.append(6)
        self.assertEqual(crossings(3, lots), [3, 5, 6])
        great = [3]
        self.assertIs(part_all(3, great, [4]), True)
        great[0] = 1
        self.assertIs(part_all(3, great, [4]), False)
        counts = [(0, 10), (1, 7), (2, 6)]
        self.assertEqual((room(3, counts), ends_of_room(3, counts)), ((3, 6), (0, 2)))
        self.assertEqual(filled(3, counts, 6), [0] * 3 + [1] + [3] * 6)
        counts[1] = (1, 4)
        self.assertEqual((room(3, counts), ends_of_room(3, counts)), ((0, 4), (0, 1)))
        self.assertEqual(filled(3, counts, 4), [0] * 4 + [2] * 2 + [3] * 4)
        opened = [(0, 3), (1, 3), (2, 2)]
        self.assertEqual(count_again(opened, 1, 3), 2)
        opened.pop()
        self.assertIsNone(count_again(opened, 1, 3))
        counts = [2, 2]
        self.assertEqual((together(4, counts), mean(4, counts)), ([(1, 6), (2, 3), (1, 6)], (1, 1)))
        counts[0] = 1
        self.assertEqual((together(4, counts), mean(4, counts)), ([(1, 2), (1, 2)], (1, 2)))
        lots = [5, 6]
        told = by_surprise((3, [3, 7, 0, 1, 3]), lots)
        lots.append(3)
        self.assertEqual(told, [6, 5])
        self.assertEqual(by_surprise((3, [3, 7, 0, 1, 3]), lots), [3, 6, 5])

    def test_a_changed_tree_is_answered_as_it_stands_then(self):
        tree = [(-1, -1, 2), (0, 0, 2), (1, 1, 1)]
        self.assertEqual(ends(tree), [(1, 1), (3, 1)])
        self.assertEqual(cut_tree(tree, 1, 1), [(-1, -1, 1), (0, 0, 1)])
        tree.pop()
        self.assertEqual(ends(tree), [(1, 2)])
        self.assertEqual(cut_tree(tree, 1, 1), [(-1, -1, 0)])

    def test_changed_rules_and_closed_lots_are_answered_as_they_stand_then(self):
        rules = [(1, 2)]
        self.assertEqual(brought_on(rules, 1), (3, [0]))
        rules.insert(0, (1, 4))
        self.assertEqual(brought_on(rules, 1), (7, [0, 1]))
        self.assertEqual(follows(rules, (1, 2)), ("by", [0, 1]))
        rules.pop()
        self.assertEqual(follows(rules, (1, 2)), ("shut", 5))
        closed = [(0, 5), (1, 4), (3, 3), (7, 1)]
        self.assertEqual((above(closed, 1), longest(closed)), ([3], [0, 1, 3, 7]))
        closed.pop(2)
        self.assertEqual((above(closed, 1), longest(closed)), ([7], [0, 1, 7]))
        self.assertEqual((below(closed, 7), way(closed, 0, 7)), ([1], [0, 1, 7]))
        self.assertEqual(baskets_of(closed), [0, 1, 1, 1, 7])

    def test_changed_histories_and_papers_are_answered_as_they_stand_then(self):
        visits, row = [1, 3, 2], [1, 2]
        history = (2, [visits, [2]])
        fits = (first_fit, last_fit, short_fit)
        self.assertEqual([fit(visits, row) for fit in fits], [[0, 1], [1, 2], [0, 1]])
        told = often_rows(history, 2, 1)
        visits.pop()
        self.assertEqual([fit(visits, row) for fit in fits], [[0, 1]] * 3)
        visits.pop()
        self.assertEqual([fit(visits, row) for fit in fits], [None] * 3)
        self.assertEqual((row_buyers(history, [2]), often_rows(history, 2, 1)), ([1], [([], 2)]))
        self.assertEqual(told, [([], 2), ([2], 2)])
        row.pop()
        self.assertEqual([fit(visits, row) for fit in fits], [[0]] * 3)
        paper = read_whole("whole | 0: -1 | none")
        self.assertEqual(show_whole(paper), "whole | 0: -1 | none")
        paper[0][0][1].append(5)
        self.assertEqual(show_whole(paper), "whole | 0: -1 5 | none")
        self.assertEqual(read_whole("whole | 0: -1 | none"), ([(0, [-1])], []))
        paper = read_closed("closed | 0 1: 0 rare -")
        paper[0][2][0][2].append(7)
        self.assertEqual(show_closed(paper), "closed | 0 1: 0 rare 7")
        paper = read_parting("parting | 0 1: - / - | by 0")
        paper[0][0][3].append(2)
        self.assertEqual(show_parting(paper), "parting | 0 1: - / 2 | by 0")
        places = [1]
        self.assertEqual(gone_on(BOOKS[0], 3, places, 1)[1], 0)
        places.clear()
        self.assertEqual(from_part(BOOKS[0], 3, places, 1), ("missed", [(0, 7)]))

    def test_changing_it_behind_changes_no_answer_of_a_like_one(self):
        first = [ask(*handed) for ask, handed in questions()]
        for ask, handed in questions():
            ask(*handed)
            spoil(handed)
        self.assertEqual([ask(*handed) for ask, handed in questions()], first)

    def test_a_looked_at_paper_that_is_changed_is_looked_at_anew(self):
        book = (2, [0, 1])
        paper = closed_paper(book, 1)
        self.assertIs(closed_holds(book, 1, paper), True)
        paper[0][2].pop()
        self.assertIs(closed_holds(book, 1, paper), False)
        paper = whole_paper(book, 1)
        self.assertIs(whole_holds(book, 1, paper), True)
        paper[1].pop()
        self.assertIs(whole_holds(book, 1, paper), False)
        paper = parting_paper(book, (2, [0]))
        self.assertIs(parting_holds(book, (2, [0]), paper), True)
        paper[0][0][3].append(0)
        self.assertIs(parting_holds(book, (2, [0]), paper), False)
        history = (2, [[1, 2], [3]])
        paper = row_paper(history, [1, 2])
        self.assertIs(row_holds(history, [1, 2], paper), True)
        paper[0][1].pop()
        self.assertIs(row_holds(history, [1, 2], paper), False)


class AskersOwn(unittest.TestCase):
    def test_each_list_stands_at_one_place_alone(self):
        for ask, handed in questions():
            inner = list(plain.lists_in(ask(*handed)))
            with self.subTest(ask=ask.__name__):
                self.assertEqual(len({id(one) for one in inner}), len(inner))

    def test_no_list_is_one_that_was_handed_in(self):
        for ask, handed in questions():
            theirs = {id(one) for one in plain.lists_in(handed)}
            self.assertFalse(any(id(one) in theirs for one in plain.lists_in(ask(*handed))))

    def test_no_list_is_told_twice(self):
        for ask, handed in questions():
            first = ask(*handed)
            again = ask(*handed)
            theirs = {id(one) for one in plain.lists_in(first)}
            self.assertFalse(any(id(one) in theirs for one in plain.lists_in(again)))

    def test_changing_what_was_told_changes_no_later_answer(self):
        for ask, handed in questions():
            told = ask(*handed)
            as_told = copy.deepcopy(told)
            spoil(told)
            with self.subTest(ask=ask.__name__):
                self.assertEqual(ask(*handed), as_told)

    def test_changing_what_was_told_changes_no_answer_of_a_like_question(self):
        as_told = copy.deepcopy([ask(*handed) for ask, handed in questions()])
        for ask, handed in questions():
            spoil(ask(*handed))
        self.assertEqual([ask(*handed) for ask, handed in questions()], as_told)

    def test_the_same_is_answered_the_same_behind_all_other_questions(self):
        told = [ask(*handed) for ask, handed in questions()]
        as_told = copy.deepcopy(told)
        for book in plain.small_books(15):
            for least in (1, 2):
                closed_paper(book, least)
                going(book, least)
                all_least(book, least)
                kin(book, 2 ** book[0] - 1)
                closed = closed_lots(book, least)
                longest(closed)
                short_rules(book, least, (0, 1))
            rules = few_rules(book)
            served(book, rules)
            follows(rules, (0, 2 ** book[0] - 1))
            baskets_of(closed_lots(book, 1))
            whole_paper(book, 1)
            levels(book, 2)
            ends(cut_tree(tree_of(book, 1), 0, 1))
            grown(book, 1)
            gone(book, 1)
            open_lots(book, 1)
            parting_paper(book, (book[0], [1]))
            crossings(book[0], book[1])
            room(1, [(0, len(book[1]))])
            together(len(book[1]), [len(book[1])] * 2)
            often_rows((book[0], [book[1][:3], book[1][3:6]]), 1, 3)
            read_closed(show_closed(closed_paper(book, 1)))
            gone_on(book, 1, [], 1)
            shop = Shop()
            shop.say("things a b c d e")
            shop.say("day a b; c")
            shop.say("closed")
        self.assertEqual(told, as_told)
        self.assertEqual([ask(*handed) for ask, handed in reversed(questions())], as_told[::-1])
        self.assertEqual(told, as_told)


class GreatNumbers(unittest.TestCase):
    def test_time_does_not_hang_on_them(self):
        book = plain.widest_book()
        great = plain.FORTY
        row = (great, great, [(great, "leads", great), (-great, "rare", [great, -great])])
        papers = [[row], [(-great,) + row[1:]], [(0,) + row[1:]], [(0, 200, row[2])], [(0, 200, [])],
                  [(2 ** 12, 0, [])], [(great - 1, 0, []), (great, 0, [])]]
        with plain.within_seconds(60):
            self.assertEqual(closed_lots(book, great), [])
            self.assertEqual(going(book, great), [])
            self.assertEqual(closed_paper(book, great), [])
            self.assertEqual(all_least((8, [255] * 60), great), [])
            for paper in papers:
                self.assertIs(closed_holds(book, 1, paper), False)
                self.assertIs(closed_holds(book, great, paper), False)
                self.assertIs(closed_holds((1, []), 1, paper), False)
            self.assertIs(closed_holds(book, great, []), True)

    def test_of_rules(self):
        great = plain.FORTY
        rules = [(great, great - 1), (0, great), (1, 2)]
        with plain.within_seconds(10):
            self.assertEqual(brought_on(rules, 0), (great, [1]))
            self.assertEqual(follows(rules, (great, 0)), ("by", []))
            self.assertIs(follow_holds(rules, (1, 2), ("by", [2, great])), False)
            self.assertIs(follow_holds(rules, (1, 2), ("by", [-great])), False)
            self.assertIs(follow_holds(rules, (1, 2), ("shut", great)), False)
            self.assertIs(follow_holds(rules, (1, 2), ("shut", -great)), False)
            self.assertIs(follow_holds([], (1, 2 ** 200), ("shut", great)), True)
            self.assertEqual(short_rules(BOOKS[0], great, (great, great)), [])
            self.assertEqual(short_rules(BOOKS[0], 1, (great, 1)), [])
            self.assertEqual(meet(great, great), great)

    def test_of_levels_paths_and_columns(self):
        great = plain.FORTY
        book = (12, [4095] * 60)
        with plain.within_seconds(10):
            for ask in (often, levels, order, grown, gone, by_columns):
                self.assertEqual(ask(book, great), [])
            self.assertEqual(border(book, great), [(0, 60)])
            self.assertEqual(tree_of(book, great), [(-1, -1, 60)])
            self.assertEqual(cut_tree(tree_of(book, 1), great, great), [(-1, -1, 0)])
            self.assertEqual(cut_tree(tree_of(book, 1), 11, great), [(-1, -1, 60)])
            self.assertIs(whole_holds(book, great, whole_paper(book, great)), True)
            self.assertIs(whole_holds(book, 1, ([(0, [great] * 60)], [(great, [-great] * 60)])), False)

    def test_of_greatest_lots_and_rooms(self):
        great = plain.FORTY
        lot = 2 ** 132
        with plain.within_seconds(10):
            self.assertEqual(greatest((8, [255] * 60), great), [])
            self.assertEqual(open_lots((8, [255] * 60), great), [])
            self.assertIsNone(count_again(open_lots((7, [127] * 60), 1), great, 127))
            self.assertEqual(room(lot, [(0, 10 ** 10 - 1)]), (0, 10 ** 10 - 1))
            self.assertEqual(ends_of_room(lot + 1, [(0, 4), (1, 2), (lot, 3)]), (0, 1))
            self.assertEqual(filled(lot + 1, [(0, 4), (1, 2), (lot, 3)], 1), [1, lot, lot, lot + 1])
            with self.assertRaises(NoRoom):
                filled(lot, [(0, 10 ** 10 - 1)], great)

    def test_of_rows_parts_and_shops(self):
        great = plain.FORTY
        history = (12, [[4095] * 7] * 7)
        with plain.within_seconds(10):
            self.assertEqual(often_rows(history, great, 6), [])
            self.assertEqual(often_rows((2, [[1], [2]]), 2, great), [([], 2)])
            self.assertIs(row_holds(history, [1], [("fits", [great])] * 7), False)
            self.assertEqual(from_part((8, [255] * 60), great, [3], great), ("whole", []))
            self.assertEqual(gone_on((8, [255] * 60), great, [3], great), ([], 0))
            shop = Shop()
            shop.say("things a b")
            shop.say(f"need {great}")
            shop.say("day a; b")
            told = [shop.say(line) for line in ("closed", f"top {great}", "border")]
            self.assertEqual(told, ["none", "none", "-: 2"])


if __name__ == "__main__":
    unittest.main()
