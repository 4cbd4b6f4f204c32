import random
import unittest

import plain
from oftenlots.closed import closed_holds, closed_lots, closed_paper, going

BOOK = (3, [3, 7, 0, 1, 3])
FORTY = plain.FORTY


class LongLists(unittest.TestCase):
    # Without the difference written out: of thousands of rows that would take longer than all else.
    def assert_same_rows(self, told, asked):
        self.assertTrue(told == asked, f"other rows than asked: {len(told)} and {len(asked)}")


class ClosedLots(LongLists):
    def test_ordinary(self):
        self.assertEqual(closed_lots(BOOK, 1), [(0, 5), (1, 4), (3, 3), (7, 1)])
        self.assertEqual(closed_lots(BOOK, 2), [(0, 5), (1, 4), (3, 3)])
        self.assertEqual(closed_lots(BOOK, 4), [(0, 5), (1, 4)])

    def test_a_count_of_just_least_is_often(self):
        self.assertEqual(closed_lots(BOOK, 3), [(0, 5), (1, 4), (3, 3)])
        self.assertEqual(closed_lots(BOOK, 5), [(0, 5)])

    def test_fewer_baskets_than_least(self):
        self.assertEqual(closed_lots(BOOK, 6), [])
        self.assertEqual(closed_lots((3, []), 1), [])
        self.assertEqual(closed_lots(BOOK, FORTY), [])

    def test_empty_and_alike_baskets(self):
        self.assertEqual(closed_lots((3, [0, 0]), 1), [(0, 2)])
        self.assertEqual(closed_lots((3, [0, 0]), 2), [(0, 2)])
        self.assertEqual(closed_lots((3, [5, 5, 5]), 2), [(5, 3)])

    def test_the_empty_lot_stands_only_where_it_is_closed(self):
        self.assertEqual(closed_lots((2, [1, 3]), 1), [(1, 2), (3, 1)])

    def test_all_things_stand_only_where_a_basket_has_them(self):
        self.assertEqual(closed_lots((2, [1, 2]), 1), [(0, 2), (1, 1), (2, 1)])
        self.assertEqual(closed_lots((2, [3]), 1), [(3, 1)])

    def test_small_books(self):
        for book in plain.small_books(3):
            for least in plain.leasts_for(book):
                with self.subTest(book=book, least=least):
                    self.assertEqual(closed_lots(book, least), plain.closed_lots(book, least))

    def test_twelve_things_and_two_hundred_baskets(self):
        wide = plain.widest_book()
        with plain.within_seconds(60):
            self.assert_same_rows(closed_lots(wide, 1), plain.closed_lots(wide, 1))
            self.assertEqual(len(closed_lots(wide, 1)), 4095)
            for seed in range(3):
                chance = random.Random(seed)
                book = (12, [chance.randrange(4096) | chance.randrange(4096) for place in range(200)])
                for least in (1, 20, 200, 201):
                    self.assert_same_rows(closed_lots(book, least), plain.closed_lots(book, least))


class Going(LongLists):
    def test_ordinary(self):
        self.assertEqual(going(BOOK, 1), [(0, 0, -1), (1, 0, 0), (3, 1, 1), (7, 3, 2)])
        self.assertEqual(going(BOOK, 2), [(0, 0, -1), (1, 0, 0), (3, 1, 1)])

    def test_depth_goes_ahead_of_the_next_thing(self):
        book = (3, [6, 5, 3])
        self.assertEqual(going(book, 1), [(0, 0, -1), (1, 0, 0), (3, 1, 1), (5, 1, 2),
                                          (2, 0, 1), (6, 2, 2), (4, 0, 2)])
        self.assertEqual(going(book, 2), [(0, 0, -1), (1, 0, 0), (2, 0, 1), (4, 0, 2)])

    def test_a_closing_with_a_lesser_thing_is_left(self):
        self.assertEqual(going((2, [3, 1, 0]), 1), [(0, 0, -1), (1, 0, 0), (3, 1, 1)])
        self.assertEqual(going((2, [3, 0]), 1), [(0, 0, -1), (3, 0, 0)])

    def test_things_below_that_are_in_the_lot_do_not_hinder(self):
        self.assertEqual(going((3, [1, 5]), 1), [(1, 1, -1), (5, 1, 2)])

    def test_only_things_above_the_last_one_are_gone_by(self):
        rows = going((3, [4, 5, 2, 0]), 1)
        self.assertEqual(rows, [(0, 0, -1), (5, 0, 0), (2, 0, 1), (4, 0, 2)])

    def test_the_first_is_the_closing_of_the_empty_lot(self):
        self.assertEqual(going((3, [6, 6]), 2), [(6, 6, -1)])
        self.assertEqual(going((3, [0]), 1), [(0, 0, -1)])

    def test_fewer_baskets_than_least(self):
        self.assertEqual(going((3, []), 1), [])
        self.assertEqual(going(BOOK, 6), [])
        self.assertEqual(going(BOOK, FORTY), [])

    def test_small_books(self):
        for book in plain.small_books(4):
            for least in plain.leasts_for(book):
                with self.subTest(book=book, least=least):
                    self.assertEqual(going(book, least), plain.going(book, least))

    def test_each_closed_lot_stands_just_once(self):
        for book in plain.some_books(20, 7, 30, 5):
            for least in (1, 2, 5):
                lots = [row[0] for row in going(book, least)]
                self.assertEqual(sorted(lots), [row[0] for row in plain.closed_lots(book, least)])

    def test_twelve_things_and_two_hundred_baskets(self):
        wide = plain.widest_book()
        with plain.within_seconds(60):
            rows = going(wide, 1)
        self.assert_same_rows(sorted(row[0] for row in rows), list(range(4095)))
        self.assertEqual(rows[:4], [(0, 0, -1), (1, 0, 0), (3, 1, 1), (7, 3, 2)])
        for lot, ahead, thing in rows[1:]:
            self.assertEqual(lot, ahead + 2 ** thing)
            self.assertLess(ahead, 2 ** thing)


class ClosedPaper(LongLists):
    def test_ordinary(self):
        self.assertEqual(closed_paper((2, [0, 1]), 1), [(0, 2, [(0, "leads", 1), (1, "rare", [])]),
                                                        (1, 1, [(1, "rare", [])])])
        self.assertEqual(closed_paper(BOOK, 2), [
            (0, 5, [(0, "leads", 1), (1, "leads", 3), (2, "rare", [1])]),
            (1, 4, [(1, "leads", 3), (2, "rare", [1])]),
            (3, 3, [(2, "rare", [1])]),
        ])

    def test_rare_tells_all_holders(self):
        self.assertEqual(closed_paper((2, [1, 0, 1, 2]), 3),
                         [(0, 4, [(0, "rare", [0, 2]), (1, "rare", [3])])])

    def test_all_things_have_no_reasons(self):
        self.assertEqual(closed_paper((2, [3]), 1), [(3, 1, [])])

    def test_no_rows(self):
        self.assertEqual(closed_paper((3, []), 1), [])
        self.assertEqual(closed_paper(BOOK, 6), [])
        self.assertEqual(closed_paper(BOOK, FORTY), [])

    def test_small_books(self):
        for book in plain.small_books(6):
            for least in plain.leasts_for(book):
                with self.subTest(book=book, least=least):
                    paper = closed_paper(book, least)
                    self.assertEqual(paper, plain.closed_paper(book, least))
                    self.assertIs(closed_holds(book, least, paper), True)

    def test_twelve_things_and_two_hundred_baskets(self):
        wide = plain.widest_book()
        with plain.within_seconds(120):
            paper = closed_paper(wide, 1)
            self.assertIs(closed_holds(wide, 1, paper), True)
            self.assertIs(closed_holds(wide, 1, paper[:-1]), False)
            self.assertIs(closed_holds(wide, 17, paper), False)
        self.assert_same_rows([row[:2] for row in paper], plain.closed_lots(wide, 1))
        self.assertEqual(paper[4094], (4094, 17, [(0, "rare", [])]))
        self.assertEqual(paper[0][2], [(thing, "leads", 2 ** thing) for thing in range(12)])


def changed_reasons(reasons):
    for k, (thing, word, rest) in enumerate(reasons):
        others = [(thing + 1, word, rest), (thing - 1, word, rest), (-1, word, rest), (FORTY, word, rest),
                  (-FORTY, word, rest), (thing, "rares", rest), (thing, "", rest), (thing, "Leads", rest)]
        if word == "leads":
            others += [(thing, "rare", rest), (thing, "rare", []), (thing, "leads", rest + 1), (thing, word, -1),
                       (thing, word, rest - 1), (thing, word, FORTY), (thing, word, -FORTY), (thing, word, [rest])]
        else:
            others += [(thing, "leads", rest), (thing, "leads", 0), (thing, word, rest + [0]),
                       (thing, word, rest + [-1]), (thing, word, rest + [FORTY]), (thing, word, [-FORTY])]
            if rest:
                others += [(thing, word, rest[:-1]), (thing, word, rest + rest[-1:]), (thing, word, [])]
            if len(rest) > 1:
                others.append((thing, word, rest[::-1]))
        for other in others:
            yield reasons[:k] + [other] + reasons[k + 1:]
        yield reasons[:k] + reasons[k + 1:]
        yield reasons[:k] + reasons[k:k + 1] + reasons[k:]
    if len(reasons) > 1:
        yield reasons[::-1]
    yield reasons + [(12, "rare", [])]
    yield reasons + [(FORTY, "leads", FORTY)]
    yield [(-1, "rare", [])] + reasons


def wrong_papers(paper):
    for k, (lot, many_have, reasons) in enumerate(paper):
        yield paper[:k] + paper[k + 1:]
        yield paper[:k] + [paper[k]] + paper[k:]
        yield paper + [paper[k]]
        rows = [(lot, other, reasons) for other in (many_have + 1, many_have - 1, 0, -1, FORTY, -FORTY)
                if other != many_have]
        rows += [(other, many_have, reasons) for other in (lot + 1, lot - 1, -1, -lot - 1, FORTY, -FORTY, 2 ** 64)
                 if other != lot]
        rows += [(lot, many_have, other) for other in changed_reasons(reasons)]
        for row in rows:
            yield paper[:k] + [row] + paper[k + 1:]
    if len(paper) > 1:
        yield paper[::-1]
        yield paper[1:] + paper[:1]
    yield paper + [(FORTY, 1, [])]
    yield [(-1, 1, [])] + paper
    yield [(-FORTY, FORTY, [(FORTY, "leads", -FORTY)])] + paper
    if paper:
        yield []


class ClosedHolds(unittest.TestCase):
    def test_told_papers_hold_and_wrong_ones_do_not(self):
        books = [BOOK, (2, [0, 1]), (2, [1, 0, 1, 2]), (3, [6, 5, 3]), (3, [6, 6]), (1, []), (3, [0]), (3, [7, 7, 0])]
        with plain.within_seconds(60):
            for book in books:
                for least in (1, 2, 3, FORTY):
                    paper = plain.closed_paper(book, least)
                    self.assertIs(closed_holds(book, least, paper), True)
                    for wrong in wrong_papers(paper):
                        with self.subTest(book=book, least=least, wrong=wrong):
                            self.assertNotEqual(wrong, paper)
                            self.assertIs(closed_holds(book, least, wrong), False)

    def test_an_empty_paper(self):
        self.assertIs(closed_holds((3, []), 1, []), True)
        self.assertIs(closed_holds(BOOK, 6, []), True)
        self.assertIs(closed_holds(BOOK, FORTY, []), True)
        self.assertIs(closed_holds(BOOK, 5, []), False)
        self.assertIs(closed_holds((1, [0]), 1, []), False)

    def test_a_row_of_a_lot_that_is_not_closed(self):
        paper = [(1, 2, [(1, "leads", 3)]), (3, 2, [])]
        self.assertIs(closed_holds((2, [3, 3]), 1, paper), False)
        self.assertIs(closed_holds((2, [3, 3]), 1, paper[1:]), True)

    def test_a_row_of_a_rare_lot(self):
        paper = [(0, 2, [(0, "rare", [1])]), (1, 1, [])]
        self.assertIs(closed_holds((1, [0, 1]), 2, paper), False)
        self.assertIs(closed_holds((1, [0, 1]), 2, paper[:1]), True)

    def test_all_but_the_first_closing(self):
        self.assertIs(closed_holds((1, [0, 1]), 1, [(1, 1, [])]), False)

    def test_a_lot_that_others_lead_to_is_missing(self):
        self.assertIs(closed_holds((1, [0, 1]), 1, [(0, 2, [(0, "leads", 1)])]), False)

    def test_papers_of_other_books_or_leasts(self):
        books = list(plain.some_books(12, 4, 7, 7))
        papers = [plain.closed_paper(book, least) for book in books for least in (1, 2, 3)]
        for book in books:
            for least in (1, 2, 3):
                right = plain.closed_paper(book, least)
                for paper in papers:
                    self.assertIs(closed_holds(book, least, paper), paper == right)

    def test_chance_changes(self):
        chance = random.Random(8)
        numbers = [-1, 0, 1, 2, 3, 5, 7, 8, FORTY, -FORTY]
        for book in plain.some_books(40, 3, 6, 9):
            right = plain.closed_paper(book, 2)
            for turn in range(20):
                paper = [(lot, many_have, list(reasons)) for lot, many_have, reasons in right]
                for k, (lot, many_have, reasons) in enumerate(paper):
                    if chance.random() < 0.3:
                        lot = chance.choice([lot] + numbers)
                    if chance.random() < 0.3:
                        many_have = chance.choice([many_have] + numbers)
                    if reasons and chance.random() < 0.3:
                        reasons[chance.randrange(len(reasons))] = (
                            chance.choice(numbers), chance.choice(["leads", "rare", "x"]),
                            chance.choice(numbers + [[], [0], [1, 2]]))
                    paper[k] = (lot, many_have, reasons)
                self.assertIs(closed_holds(book, 2, paper), paper == right)


if __name__ == "__main__":
    unittest.main()
