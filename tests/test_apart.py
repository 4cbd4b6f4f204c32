"""Points [37] and [38]."""

import random
import unittest

import plain
import plainapart
from oftenlots.apart import least_parting, parting_holds, parting_paper, parts
from oftenlots.greatest import crossings

FORTY = plain.FORTY
# Of the one the thing 1 alone parts: no basket of the other has it.
ONE = (2, [1, 3])
OTHER = (2, [1, 0])
PAPER = ([(2, 1, [1, 1], [0])], [("in", 0), ("by", 0)])
# Here the lots 3, 4 are least parting, and backs of two things are asked.
MORE = (3, [3, 7, 1, 4])
LESS = (3, [1, 2, 0])
RIGHT = ([(3, 0, [1, 0, 0], [1, 0]), (4, 1, [2, 2, 2], [0])], [("by", 0), ("by", 1), ("in", 0), ("by", 1)])


def pairs_of_books(seed):
    chance = random.Random(seed)
    yield from [((2, []), (2, [])), ((2, []), (2, [3])), ((2, [3]), (2, [])), ((2, [0]), (2, [0])),
                ((3, [0, 0]), (3, [])), ((3, [7, 7]), (3, [7])), ((3, [7]), (3, [0])), ((3, [7]), (3, [3, 5, 6])),
                ((3, [1, 2, 4]), (3, [0])), (ONE, OTHER), (MORE, LESS), (LESS, MORE), ((1, [1]), (1, [0]))]
    for turn in range(60):
        many = chance.randint(1, 5)
        yield tuple((many, [chance.randrange(2 ** many) for place in range(chance.randint(0, 7))]) for side in (0, 1))


class Parts(unittest.TestCase):
    def test_ordinary(self):
        self.assertEqual([parts(ONE, OTHER, lot) for lot in range(4)], [False, False, True, True])
        self.assertEqual([parts(OTHER, ONE, lot) for lot in range(4)], [False] * 4)
        self.assertEqual([parts(MORE, LESS, lot) for lot in range(8)], [False, False, False] + [True] * 5)

    def test_a_lot_that_neither_has(self):
        self.assertIs(parts((2, [1]), (2, [1]), 2), False)
        self.assertIs(parts((2, [1]), (2, []), 2), False)

    def test_books_without_baskets_and_books_that_are_alike(self):
        for lot in range(4):
            self.assertIs(parts((2, []), (2, []), lot), False)
            self.assertIs(parts((2, []), (2, [3]), lot), False)
            self.assertIs(parts((2, [3]), (2, []), lot), True)
            self.assertIs(parts((2, [3, 1]), (2, [1, 3]), lot), False)

    def test_small_books(self):
        for one, other in pairs_of_books(120):
            for lot in range(2 ** one[0]):
                with self.subTest(one=one, other=other, lot=lot):
                    self.assertIs(parts(one, other, lot), plainapart.parts(one, other, lot))


class LeastParting(unittest.TestCase):
    def test_ordinary(self):
        self.assertEqual(least_parting(ONE, OTHER), [(2, 1)])
        self.assertEqual(least_parting(MORE, LESS), [(3, 2), (4, 2)])
        self.assertEqual(least_parting((3, [7]), (3, [3, 5, 6])), [(7, 1)])
        self.assertEqual(least_parting((3, [7, 5, 5]), (3, [1, 6, 2])), [(3, 1), (5, 3)])

    def test_books_without_baskets(self):
        self.assertEqual(least_parting((3, []), (3, [])), [])
        self.assertEqual(least_parting((3, []), (3, [7, 0])), [])
        self.assertEqual(least_parting((3, [7, 0]), (3, [])), [(0, 2)])
        self.assertEqual(least_parting((3, [0]), (3, [])), [(0, 1)])

    def test_books_that_are_alike(self):
        self.assertEqual(least_parting((3, [7, 0, 1]), (3, [7, 0, 1])), [])
        self.assertEqual(least_parting((3, [0]), (3, [0])), [])

    def test_counts_are_those_of_the_one(self):
        self.assertEqual(least_parting((2, [2, 3, 2, 0]), (2, [0, 1, 1])), [(2, 3)])

    def test_small_books(self):
        for one, other in pairs_of_books(121):
            with self.subTest(one=one, other=other):
                self.assertEqual(least_parting(one, other), plainapart.least_parting(one, other))

    def test_they_are_the_least_ones_of_crossings(self):
        for one, other in pairs_of_books(122):
            come = []
            for basket in one[1]:
                come += crossings(one[0], [basket & ~its for its in other[1]])
            with self.subTest(one=one, other=other):
                self.assertEqual([row[0] for row in least_parting(one, other)], plainapart.least_ones(come))

    def test_eight_things_and_sixty_baskets(self):
        fours = [lot for lot in range(256) if len(plain.things(lot)) == 4][:60]
        with plain.within_seconds(20):
            self.assertEqual(least_parting((8, fours), (8, [15 & lot for lot in fours])),
                             plainapart.least_parting((8, fours), (8, [15 & lot for lot in fours])))
            self.assertEqual(least_parting((8, [255] * 60), (8, [127] * 60)), [(128, 60)])


class Told(unittest.TestCase):
    def test_the_only_one(self):
        self.assertEqual(parting_paper(ONE, OTHER), PAPER)
        self.assertEqual(parting_paper((1, [1, 0]), (1, [0])), ([(1, 0, [0], [0])], [("by", 0), ("in", 0)]))

    def test_books_without_baskets(self):
        self.assertEqual(parting_paper((2, []), (2, [])), ([], []))
        self.assertEqual(parting_paper((2, []), (2, [3])), ([], []))
        self.assertEqual(parting_paper((2, [3]), (2, [])), ([(0, 0, [], [])], [("by", 0)]))

    def test_small_books(self):
        for one, other in pairs_of_books(123):
            told = parting_paper(one, other)
            with self.subTest(one=one, other=other):
                self.assertEqual([row[0] for row in told[0]],
                                 [row[0] for row in plainapart.least_parting(one, other)])
                self.assertTrue(plainapart.parting_holds(one, other, told))
                self.assertIs(parting_holds(one, other, told), True)

    def test_eight_things_and_sixty_baskets(self):
        chance = random.Random(124)
        with plain.within_seconds(30):
            for turn in range(4):
                one = (8, [chance.randrange(256) | chance.randrange(256) for place in range(60)])
                other = (8, [chance.randrange(256) for place in range(60)])
                told = parting_paper(one, other)
                self.assertTrue(plainapart.parting_holds(one, other, told))
                self.assertIs(parting_holds(one, other, told), True)


class Looker(unittest.TestCase):
    def assert_looked(self, one, other, paper, asked):
        with self.subTest(one=one, other=other, paper=paper):
            self.assertIs(parting_holds(one, other, paper), asked)

    def assert_wrong_rows(self, rows):
        self.assert_looked(MORE, LESS, (rows, RIGHT[1]), False)

    def with_row(self, place, changed):
        rows = list(RIGHT[0])
        rows[place] = changed
        return rows

    def test_right_ones(self):
        self.assert_looked(ONE, OTHER, PAPER, True)
        self.assert_looked(MORE, LESS, RIGHT, True)
        self.assert_looked((2, []), (2, [3]), ([], []), True)
        self.assert_looked((2, [3, 0]), (2, []), ([(0, 1, [], [])], [("by", 0), ("by", 0)]), True)
        self.assert_looked((2, [3, 0]), (2, [3]), ([], [("in", 0), ("in", 0)]), True)

    def test_right_ones_that_are_not_the_told_one(self):
        # Other places, marks, backs and leads.
        self.assert_looked(MORE, LESS, ([(3, 1, [1, 0, 1], [1, 0]), (4, 3, [2, 2, 2], [2])],
                                        [("by", 0), ("by", 0), ("in", 0), ("by", 1)]), True)
        self.assert_looked(MORE, LESS, ([(3, 0, [1, 0, 0], [1, 0]), (4, 1, [2, 2, 2], [1])], RIGHT[1]), True)
        # A least parting lot left out that no lead needs.
        one = (2, [3])
        other = (2, [0])
        for row in ((1, 0, [0], [0]), (2, 0, [1], [0])):
            self.assert_looked(one, other, ([row], [("by", 0)]), True)
        self.assert_looked(one, other, ([(1, 0, [0], [0]), (2, 0, [1], [0])], [("by", 1)]), True)
        self.assert_looked(one, other, ([], [("by", 0)]), False)

    def test_a_row_left_out_that_a_lead_needs(self):
        self.assert_looked(ONE, OTHER, ([], PAPER[1]), False)
        self.assert_wrong_rows(RIGHT[0][:1])
        self.assert_wrong_rows(RIGHT[0][1:])
        self.assert_wrong_rows([])

    def test_a_row_twice_or_in_another_order(self):
        self.assert_looked(ONE, OTHER, (PAPER[0] * 2, PAPER[1]), False)
        self.assert_wrong_rows(RIGHT[0] + RIGHT[0][1:])
        self.assert_wrong_rows(RIGHT[0][:1] + RIGHT[0])
        self.assert_looked(MORE, LESS, (RIGHT[0][::-1], [("by", 1), ("by", 0), ("in", 0), ("by", 0)]), False)

    def test_another_lot(self):
        for lot in (0, 1, 2, 5, 6, 7):
            self.assert_wrong_rows(self.with_row(1, (lot, 1, [2, 2, 2], [0])))
        # A parting lot that is not a least one: no basket of the other has it without the thing 0.
        self.assert_wrong_rows([RIGHT[0][0], (5, 1, [2, 2, 2], [0, 0])])
        self.assert_looked((2, [3]), (2, [0]), ([(3, 0, [0], [0, 0])], [("by", 0)]), False)
        # One that does not part.
        self.assert_looked((2, [3]), (2, [1]), ([(1, 0, [0], [0])], [("by", 0)]), False)
        self.assert_looked((2, [3]), (2, [1]), ([(1, 0, [-1], [0])], [("by", 0)]), False)
        self.assert_looked((2, [3]), (2, [3]), ([(0, 0, [-1], [])], [("by", 0)]), False)

    def test_lots_below_nought_or_beyond_all_things(self):
        for lot in (-1, -4, -8, 8, 12, 16, FORTY, -FORTY):
            for backs in ([0], [], [0, 0]):
                self.assert_wrong_rows([RIGHT[0][0], (lot, 1, [2, 2, 2], backs)])
                self.assert_wrong_rows([(lot, 1, [2, 2, 2], backs)] + RIGHT[0])
                self.assert_wrong_rows(RIGHT[0] + [(lot, 1, [2, 2, 2], backs)])
        self.assert_looked((1, [3]), (1, [1]), ([(2, 0, [1], [0])], [("by", 0)]), False)
        self.assert_looked((2, [3]), (2, []), ([(-1, 0, [], [])], [("by", 0)]), False)

    def test_places_that_are_none(self):
        for place in (-1, -2, -3, -4, 4, 5, 100, FORTY, -FORTY):
            self.assert_wrong_rows(self.with_row(0, (3, place, [1, 0, 0], [1, 0])))
            self.assert_wrong_rows(self.with_row(1, (4, place, [2, 2, 2], [0])))
        self.assert_looked(ONE, OTHER, ([(2, -1, [1, 1], [0])], PAPER[1]), False)

    def test_a_basket_at_the_place_that_has_not_the_lot(self):
        for place in (2, 3):
            self.assert_wrong_rows(self.with_row(0, (3, place, [1, 0, 0], [1, 0])))
        for place in (0, 2):
            self.assert_wrong_rows(self.with_row(1, (4, place, [2, 2, 2], [0])))

    def test_marks_too_few_or_too_many(self):
        for marks in ([], [2], [2, 2], [2, 2, 2, 2], [2] * 300):
            self.assert_wrong_rows(self.with_row(1, (4, 1, marks, [0])))
        self.assert_looked((1, [1]), (1, []), ([(0, 0, [0], [])], [("by", 0)]), False)

    def test_marks_that_are_wrong(self):
        # -1; a thing that is not of the lot; a thing that the basket has; no thing at all.
        for marks in ([-1, 2, 2], [2, -1, 2], [2, 2, -1], [-1, -1, -1], [0, 2, 2], [2, 1, 2], [2, 2, 3], [2, 2, -2],
                      [2, 2, FORTY], [-FORTY, 2, 2]):
            self.assert_wrong_rows(self.with_row(1, (4, 1, marks, [0])))
        for marks in ([0, 0, 0], [1, 1, 1], [1, 0, -1], [1, 0, 2], [2, 0, 0], [-1, 0, 0]):
            self.assert_wrong_rows(self.with_row(0, (3, 0, marks, [1, 0])))

    def test_backs_too_few_or_too_many(self):
        for backs in ([], [1], [0], [1, 0, 0], [1, 0, 1], [1, 0] * 150):
            self.assert_wrong_rows(self.with_row(0, (3, 0, [1, 0, 0], backs)))
        for backs in ([], [0, 0]):
            self.assert_wrong_rows(self.with_row(1, (4, 1, [2, 2, 2], backs)))
        self.assert_looked((1, [1]), (1, []), ([(0, 0, [], [0])], [("by", 0)]), False)

    def test_backs_that_are_wrong(self):
        # By things, rising: the first basket has the thing 0 alone, the second one the thing 1.
        for backs in ([0, 1], [0, 0], [1, 1], [2, 0], [1, 2], [-2, 0], [1, -3], [-1, -1], [1, 3], [3, 0],
                      [FORTY, 0], [1, -FORTY]):
            self.assert_wrong_rows(self.with_row(0, (3, 0, [1, 0, 0], backs)))
        for backs in ([3], [-1], [-3], [FORTY]):
            self.assert_wrong_rows(self.with_row(1, (4, 1, [2, 2, 2], backs)))

    def test_leads_too_few_or_too_many(self):
        for leads in ([], RIGHT[1][:-1], RIGHT[1][1:], RIGHT[1] + [("by", 0)], RIGHT[1] + [("in", 0)], RIGHT[1] * 2):
            self.assert_looked(MORE, LESS, (RIGHT[0], leads), False)
        self.assert_looked((2, []), (2, [3]), ([], [("in", 0)]), False)

    def assert_wrong_lead(self, place, lead):
        leads = list(RIGHT[1])
        leads[place] = lead
        self.assert_looked(MORE, LESS, (RIGHT[0], leads), False)

    def test_any_other_word(self):
        for word in ("", "on", "By", "by ", "IN", "in.", "none", "byin", "leads"):
            for place, number in ((0, 0), (1, 1), (2, 0)):
                self.assert_wrong_lead(place, (word, number))
        self.assert_wrong_lead(0, ("in", 0))
        self.assert_wrong_lead(2, ("by", 0))

    def test_a_number_that_is_no_place(self):
        for number in (-1, -2, -3, 2, 3, FORTY, -FORTY):
            self.assert_wrong_lead(0, ("by", number))
            self.assert_wrong_lead(1, ("by", number))
        for number in (-1, -2, -3, 3, FORTY, -FORTY):
            self.assert_wrong_lead(2, ("in", number))

    def test_a_row_or_basket_that_does_not_show_it(self):
        self.assert_wrong_lead(0, ("by", 1))
        self.assert_wrong_lead(3, ("by", 0))
        self.assert_wrong_lead(2, ("in", 1))
        self.assert_wrong_lead(2, ("in", 2))

    def test_the_paper_of_other_books(self):
        self.assert_looked(LESS, MORE, RIGHT, False)
        self.assert_looked(MORE, (3, [1, 2]), RIGHT, False)
        self.assert_looked((3, [3, 7, 1]), LESS, RIGHT, False)
        self.assert_looked(MORE, (3, [1, 2, 3]), RIGHT, False)

    def test_great_numbers(self):
        great = [FORTY] * 300
        with plain.within_seconds(10):
            one = (8, [255] * 60)
            other = (8, [0] * 60)
            for paper in (([(FORTY, FORTY, great, great)], [("by", FORTY)] * 60),
                          ([(1, 0, great[:60], [FORTY])], [("by", 0)] * 60), ([], [("in", FORTY)] * 60),
                          ([(1, 0, [0] * 60, [FORTY])], [("by", 0)] * 60), ([(-FORTY, 0, great, great)] * 300, []),
                          ([(1, 0, [0] * 60, [-FORTY])], [("by", 0)] * 60)):
                self.assert_looked(one, other, paper, False)

    def test_changes_of_told_papers_by_chance(self):
        chance = random.Random(125)
        held = 0
        for one, other in pairs_of_books(126):
            for turn in range(60):
                paper = changed(chance, one, other, parting_paper(one, other))
                asked = plainapart.parting_holds(one, other, paper)
                held += asked
                self.assert_looked(one, other, paper, asked)
        self.assertGreater(held, 300)


def changed_numbers(chance, numbers, most):
    told = list(numbers)
    choice = chance.randrange(4)
    if choice == 0 and told:
        told.pop(chance.randrange(len(told)))
    elif choice == 1:
        told.insert(chance.randint(0, len(told)), chance.randint(-1, most))
    elif told:
        told[chance.randrange(len(told))] = chance.randint(-1, most)
    return told


def changed(chance, one, other, paper):
    """A told paper with one thing otherwise, now and then still right."""
    rows, leads = list(paper[0]), list(paper[1])
    choice = chance.randrange(8)
    if choice < 5 and rows:
        place = chance.randrange(len(rows))
        row = list(rows[place])
        if choice == 0:
            row[0] = chance.randint(-1, 2 ** one[0])
        elif choice == 1:
            row[1] = chance.randint(-1, len(one[1]))
        elif choice == 2:
            row[2] = changed_numbers(chance, row[2], one[0])
        elif choice == 3:
            row[3] = changed_numbers(chance, row[3], len(other[1]))
        rows[place] = tuple(row)
        if choice == 4:
            rows.insert(chance.randint(0, len(rows)), chance.choice(rows))
    elif choice == 5 and rows:
        rows.pop(chance.randrange(len(rows)))
    elif leads:
        place = chance.randrange(len(leads))
        leads[place] = (chance.choice(["by", "in", "on"]), chance.randint(-1, max(len(rows), len(other[1]))))
    return (rows, leads)


if __name__ == "__main__":
    unittest.main()
