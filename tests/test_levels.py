"""Points [24] and [25]."""

import random
import unittest

import plain
import plainlevels
from oftenlots.levels import border, levels, often, whole_holds, whole_paper

BOOK = (3, [3, 7, 0, 1, 3])
FORTY = plain.FORTY
# Each of its lots has one thing at most, so no other marks could be told.
PAIR = (2, [0, 1])
PAPER = ([(0, [-1, -1]), (1, [0, -1])], [(2, [1, 1])])


class Often(unittest.TestCase):
    def test_ordinary(self):
        self.assertEqual(often(BOOK, 1), [(0, 5), (1, 4), (2, 3), (3, 3), (4, 1), (5, 1), (6, 1), (7, 1)])
        self.assertEqual(often(BOOK, 2), [(0, 5), (1, 4), (2, 3), (3, 3)])
        self.assertEqual(often(BOOK, 4), [(0, 5), (1, 4)])
        self.assertEqual(often(BOOK, 5), [(0, 5)])

    def test_rising_by_lots_not_by_levels(self):
        self.assertEqual(often((3, [3, 4]), 1), [(0, 2), (1, 1), (2, 1), (3, 1), (4, 1)])

    def test_fewer_baskets_than_least(self):
        for least in (6, 7, FORTY):
            self.assertEqual(often(BOOK, least), [])
            self.assertEqual(levels(BOOK, least), [])
            self.assertEqual(border(BOOK, least), [(0, 5)])

    def test_no_baskets(self):
        for least in (1, FORTY):
            self.assertEqual(often((3, []), least), [])
            self.assertEqual(levels((3, []), least), [])
            self.assertEqual(border((3, []), least), [(0, 0)])

    def test_empty_baskets(self):
        book = (3, [0, 0])
        self.assertEqual(often(book, 1), [(0, 2)])
        self.assertEqual(levels(book, 2), [[(0, 2)]])
        self.assertEqual(border(book, 2), [(1, 0), (2, 0), (4, 0)])

    def test_baskets_that_are_alike(self):
        book = (2, [3, 3, 3])
        self.assertEqual(often(book, 3), [(0, 3), (1, 3), (2, 3), (3, 3)])
        self.assertEqual(levels(book, 3), [[(0, 3)], [(1, 3), (2, 3)], [(3, 3)]])
        self.assertEqual(border(book, 3), [])
        self.assertEqual(border(book, 4), [(0, 3)])


class Levels(unittest.TestCase):
    def test_ordinary(self):
        self.assertEqual(levels(BOOK, 1), [[(0, 5)], [(1, 4), (2, 3), (4, 1)], [(3, 3), (5, 1), (6, 1)], [(7, 1)]])
        self.assertEqual(levels(BOOK, 2), [[(0, 5)], [(1, 4), (2, 3)], [(3, 3)]])
        self.assertEqual(levels(BOOK, 5), [[(0, 5)]])

    def test_each_level_rises(self):
        book = (4, [9, 6, 9, 6, 5, 5])
        self.assertEqual(levels(book, 2), [[(0, 6)], [(1, 4), (2, 2), (4, 4), (8, 2)], [(5, 2), (6, 2), (9, 2)]])


class Border(unittest.TestCase):
    def test_ordinary(self):
        self.assertEqual(border(BOOK, 1), [])
        self.assertEqual(border(BOOK, 2), [(4, 1)])
        self.assertEqual(border(BOOK, 4), [(2, 3), (4, 1)])
        self.assertEqual(border((3, [6, 5, 3]), 1), [(7, 0)])
        self.assertEqual(border((3, [6, 5, 3]), 2), [(3, 1), (5, 1), (6, 1)])

    def test_rising_by_lots_not_by_levels(self):
        self.assertEqual(border((3, [3, 5, 6, 1, 2]), 2), [(3, 1), (5, 1), (6, 1)])
        self.assertEqual(border((3, [1, 2, 1, 2]), 1), [(3, 0), (4, 0)])

    def test_a_lot_with_one_rare_lot_within_is_left_out(self):
        self.assertEqual(border((3, [3, 1, 2, 4, 4]), 1), [(5, 0), (6, 0)])


class AllThree(unittest.TestCase):
    def test_small_books(self):
        for book in plain.small_books(70):
            for least in plain.leasts_for(book):
                with self.subTest(book=book, least=least):
                    self.assertEqual(often(book, least), plainlevels.often(book, least))
                    self.assertEqual(levels(book, least), plainlevels.levels(book, least))
                    self.assertEqual(border(book, least), plainlevels.border(book, least))

    def test_twelve_things_and_sixty_baskets(self):
        book = (12, [4095 - 2 ** (place % 12) for place in range(60)])
        counts = [(lot, sum(basket & lot == lot for basket in book[1])) for lot in range(4096)]
        with plain.within_seconds(60):
            for least in (1, 30, 60):
                self.assertTrue(often(book, least) == [row for row in counts if row[1] >= least])
                told = levels(book, least)
                self.assertTrue(sorted(row for level in told for row in level) == often(book, least))
                self.assertTrue(all(len(plain.things(row[0])) == k for k, level in enumerate(told) for row in level))
            self.assertTrue(border(book, 1) == [(4095, 0)])
            # Six things leave thirty baskets, seven leave fewer.
            sevens = [(lot, 25) for lot in range(4096) if len(plain.things(lot)) == 7]
            self.assertTrue(border(book, 30) == sevens)
            self.assertTrue(border((12, [4095] * 60), 60) == [])


class Told(unittest.TestCase):
    def test_the_only_one(self):
        self.assertEqual(whole_paper(PAIR, 1), PAPER)
        self.assertEqual(whole_paper(BOOK, 5), ([(0, [-1] * 5)], [(1, [-1, -1, 0, -1, -1]), (2, [-1, -1, 1, 1, -1]),
                                                                  (4, [2, -1, 2, 2, 2])]))

    def test_edges(self):
        self.assertEqual(whole_paper((3, []), 1), ([], [(0, [])]))
        self.assertEqual(whole_paper((3, [7, 0]), FORTY), ([], [(0, [-1, -1])]))
        self.assertEqual(whole_paper((1, [1]), 1), ([(0, [-1]), (1, [-1])], []))

    def test_small_books(self):
        for book in plain.small_books(71):
            for least in plain.leasts_for(book):
                told = whole_paper(book, least)
                with self.subTest(book=book, least=least):
                    self.assertEqual([row[0] for row in told[0]], [row[0] for row in plainlevels.often(book, least)])
                    self.assertEqual([row[0] for row in told[1]], plain.least_rare(book, least))
                    for lot, marks in told[0] + told[1]:
                        self.assertTrue(plainlevels.marks_fit(book, lot, marks))
                    self.assertIs(whole_holds(book, least, told), True)

    def test_eight_things_and_sixty_baskets(self):
        with plain.within_seconds(60):
            for book in ((8, [255 - 2 ** (place % 8) for place in range(60)]), (8, [255] * 60), (8, [])):
                for least in (1, 30, 60):
                    told = whole_paper(book, least)
                    self.assertTrue(plainlevels.whole_holds(book, least, told))
                    self.assertIs(whole_holds(book, least, told), True)


class Looker(unittest.TestCase):
    def assert_looked(self, book, least, paper, asked):
        with self.subTest(book=book, least=least, paper=paper):
            self.assertIs(whole_holds(book, least, paper), asked)

    def test_right_ones_that_are_not_the_told_one(self):
        # Rare lots that are not least ones beside, and another lacking thing.
        self.assert_looked(PAIR, 1, ([(0, [-1, -1]), (1, [0, -1])], [(2, [1, 1]), (3, [0, 1])]), True)
        self.assert_looked(PAIR, 1, ([(0, [-1, -1]), (1, [0, -1])], [(2, [1, 1]), (3, [1, 1])]), True)
        self.assert_looked((2, [0]), 1, ([(0, [-1])], [(1, [0]), (2, [1]), (3, [0])]), True)
        self.assert_looked((2, [0]), 1, ([(0, [-1])], [(1, [0]), (2, [1]), (3, [1])]), True)
        # No often lot at all: then rare may have whatever is rare, if only the empty lot.
        self.assert_looked(PAIR, 3, ([], [(0, [-1, -1]), (2, [1, 1])]), True)
        self.assert_looked(PAIR, 3, ([], [(0, [-1, -1]), (1, [0, -1]), (2, [1, 1]), (3, [0, 1])]), True)

    def test_a_rare_lot_that_a_greater_one_cannot_stand_for(self):
        self.assert_looked(PAIR, 1, ([(0, [-1, -1]), (1, [0, -1])], [(3, [0, 1])]), False)
        self.assert_looked((2, [1, 2]), 1, ([(0, [-1, -1]), (1, [-1, 0]), (2, [1, -1])], [(3, [1, 0])]), True)

    def test_a_lot_left_out(self):
        self.assert_looked(PAIR, 1, ([(0, [-1, -1])], [(2, [1, 1])]), False)
        self.assert_looked(PAIR, 1, ([(1, [0, -1])], [(2, [1, 1])]), False)
        self.assert_looked(PAIR, 1, ([(0, [-1, -1]), (1, [0, -1])], []), False)
        self.assert_looked(PAIR, 1, ([], []), False)
        self.assert_looked(PAIR, 1, ([], [(2, [1, 1])]), False)
        self.assert_looked((2, []), 1, ([], []), False)
        self.assert_looked((2, []), 1, ([], [(1, [])]), False)
        self.assert_looked((2, []), 1, ([], [(0, [])]), True)

    def test_the_empty_lot_missing_where_all_else_is_there(self):
        self.assert_looked((1, [1]), 1, ([(1, [-1])], []), False)
        self.assert_looked(PAIR, 3, ([], [(1, [0, -1]), (2, [1, 1])]), False)

    def test_twice_or_in_another_order(self):
        often_rows, rare_rows = PAPER
        self.assert_looked(PAIR, 1, (often_rows + often_rows[-1:], rare_rows), False)
        self.assert_looked(PAIR, 1, (often_rows[:1] + often_rows, rare_rows), False)
        self.assert_looked(PAIR, 1, (often_rows[::-1], rare_rows), False)
        self.assert_looked(PAIR, 1, (often_rows, rare_rows * 2), False)
        self.assert_looked(PAIR, 1, (often_rows, [(3, [0, 1]), (2, [1, 1])]), False)
        self.assert_looked(PAIR, 1, (rare_rows, often_rows), False)

    def test_lots_that_are_not_of_the_books_things(self):
        often_rows, rare_rows = PAPER
        for lot, marks in ((4, [2, 2]), (6, [1, 1]), (FORTY, [1, 1]), (2 ** 130, [130, 130])):
            self.assert_looked(PAIR, 1, (often_rows, rare_rows + [(lot, marks)]), False)
        for lot in (-1, -2, -4, -FORTY):
            for marks in ([1, 1], [0, 1], [0, 0], [-1, -1], [2, 2]):
                self.assert_looked(PAIR, 1, (often_rows, [(lot, marks)] + rare_rows), False)
                self.assert_looked(PAIR, 1, ([(lot, marks)] + often_rows, rare_rows), False)
        self.assert_looked((1, [3, 3]), 1, ([(0, [-1, -1]), (1, [-1, -1]), (2, [-1, -1])], []), False)

    def test_too_few_or_too_many_marks(self):
        for marks in ([], [0], [-1], [0, -1, -1], [0, -1, 0], [0, -1] * 50, [-1]):
            self.assert_looked(PAIR, 1, ([(0, [-1, -1]), (1, marks)], [(2, [1, 1])]), False)
        for marks in ([], [1], [1, 1, 1]):
            self.assert_looked(PAIR, 1, ([(0, [-1, -1]), (1, [0, -1])], [(2, marks)]), False)
        for marks in ([], [-1], [-1, -1, -1]):
            self.assert_looked(PAIR, 1, ([(0, marks), (1, [0, -1])], [(2, [1, 1])]), False)
        self.assert_looked((2, []), 1, ([], [(0, [-1])]), False)

    def test_marks_that_are_wrong(self):
        # No thing of the lot; a thing that the basket has; -1 where it lacks one; one where it has all.
        for marks in ([1, -1], [2, -1], [-1, -1], [0, 0], [-2, -1], [FORTY, -1], [-FORTY, -1], [0, -2], [0, FORTY]):
            self.assert_looked(PAIR, 1, ([(0, [-1, -1]), (1, marks)], [(2, [1, 1])]), False)
        for marks in ([0, 1], [1, 0], [-1, 1], [1, 2], [FORTY, FORTY], [-2, -2]):
            self.assert_looked(PAIR, 1, ([(0, [-1, -1]), (1, [0, -1])], [(2, marks)]), False)
        for marks in ([0, 0], [0, -1], [1, 1], [-2, -1], [FORTY, -1]):
            self.assert_looked(PAIR, 1, ([(0, marks), (1, [0, -1])], [(2, [1, 1])]), False)
        # Of the lot of both things the first basket lacks both, the second one lacks 1 alone.
        for marks, asked in (([0, 1], True), ([1, 1], True), ([0, 0], False), ([2, 1], False), ([0, -1], False)):
            self.assert_looked(PAIR, 1, (PAPER[0], [PAPER[1][0], (3, marks)]), asked)

    def test_often_among_rare_and_rare_among_often(self):
        self.assert_looked(PAIR, 1, ([(0, [-1, -1])], [(1, [0, -1]), (2, [1, 1])]), False)
        self.assert_looked(PAIR, 1, ([(0, [-1, -1]), (1, [0, -1]), (2, [1, 1])], [(3, [0, 1])]), False)
        self.assert_looked(PAIR, 1, ([(0, [-1, -1]), (1, [0, -1]), (2, [1, 1]), (3, [0, 1])], []), False)
        self.assert_looked(PAIR, 1, ([], [(0, [-1, -1])]), False)
        self.assert_looked(PAIR, 3, ([(0, [-1, -1])], [(1, [0, -1]), (2, [1, 1])]), False)
        # The told paper for another least.
        self.assert_looked(PAIR, 2, PAPER, False)
        self.assert_looked(PAIR, 1, whole_paper(PAIR, 2), False)
        self.assert_looked(PAIR, FORTY, PAPER, False)
        self.assert_looked(PAIR, FORTY, ([], [(0, [-1, -1])]), True)

    def test_a_lot_in_both_lists(self):
        often_rows, rare_rows = PAPER
        for least in (1, 2, 3):
            self.assert_looked(PAIR, least, (often_rows, [(0, [-1, -1])] + rare_rows), False)
            self.assert_looked(PAIR, least, (often_rows, [(1, [0, -1])] + rare_rows), False)
            self.assert_looked(PAIR, least, (often_rows + rare_rows, rare_rows), False)

    def test_just_as_often_as_least(self):
        book = (1, [1, 1, 0])
        self.assert_looked(book, 2, ([(0, [-1, -1, -1]), (1, [-1, -1, 0])], []), True)
        self.assert_looked(book, 2, ([(0, [-1, -1, -1])], [(1, [-1, -1, 0])]), False)
        self.assert_looked(book, 3, ([(0, [-1, -1, -1])], [(1, [-1, -1, 0])]), True)
        self.assert_looked(book, 3, ([(0, [-1, -1, -1]), (1, [-1, -1, 0])], []), False)

    def test_a_thing_more_that_leads_nowhere(self):
        book = (3, [3, 5, 6])
        whole = whole_paper(book, 1)
        self.assert_looked(book, 1, whole, True)
        for place in range(len(whole[0])):
            self.assert_looked(book, 1, (whole[0][:place] + whole[0][place + 1:], whole[1]), False)
        self.assert_looked(book, 1, (whole[0], []), False)

    def test_lists_of_the_paper_are_only_looked_at(self):
        paper = ([(0, [-1, -1]), (1, [0, -1])], [(2, [1, 1])])
        self.assert_looked(PAIR, 1, paper, True)
        self.assertEqual(paper, PAPER)
        paper[0][1][1].append(-1)
        self.assert_looked(PAIR, 1, paper, False)

    def test_changes_of_told_papers_by_chance(self):
        chance = random.Random(72)
        held = 0
        for book in plain.small_books(73):
            for least in (1, 2, 3):
                for turn in range(40):
                    paper = changed(chance, book, whole_paper(book, least))
                    asked = plainlevels.whole_holds(book, least, paper)
                    held += asked
                    self.assert_looked(book, least, paper, asked)
        self.assertGreater(held, 200)

    def test_great_numbers(self):
        book = (8, [255] * 60)
        great = [FORTY] * 60
        with plain.within_seconds(20):
            for paper in (([(FORTY, great)], []), ([(0, great)], []), ([(1, great)], [(FORTY, great)]),
                          ([], [(-FORTY, great)]), ([(0, [-1] * 60), (1, great)], []), ([], [(0, [-FORTY] * 60)])):
                self.assert_looked(book, 1, paper, False)
                self.assert_looked(book, FORTY, paper, False)


def changed(chance, book, paper):
    """A told paper with one thing otherwise, now and then still right."""
    rows = [list(part) for part in paper]
    part = chance.choice([side for side in rows if side] or [rows[0]])
    lot = chance.randint(-1, 2 ** book[0])
    choice = chance.randrange(6)
    if choice == 0 and part:
        part.pop(chance.randrange(len(part)))
    elif choice == 1:
        marks = [min(plain.things(lot) - plain.things(basket), default=-1) for basket in book[1]] if lot >= 0 else []
        rows[chance.randrange(2)].append((lot, marks))
        rows[0].sort(key=lambda row: row[0])
        rows[1].sort(key=lambda row: row[0])
    elif choice == 2 and part and book[1]:
        marks = part[chance.randrange(len(part))][1]
        marks[chance.randrange(len(marks))] = chance.randint(-2, book[0])
    elif choice == 3 and part:
        part[chance.randrange(len(part))][1].append(chance.randint(-1, 1))
    elif choice == 4 and part:
        part.append(part[0])
    elif part:
        place = chance.randrange(len(part))
        part[place] = (lot, part[place][1])
    return (rows[0], rows[1])


if __name__ == "__main__":
    unittest.main()
