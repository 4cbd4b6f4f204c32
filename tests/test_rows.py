"""Points [39], [40], [41] and [42]."""

import random
import unittest

import plain
import plainrows
from oftenlots.rows import (closed_rows, first_fit, last_fit, lies_in, often_rows, row_buyers, row_count, row_holds,
                            row_paper, short_fit)

FORTY = plain.FORTY
# Visits: tea, tea and milk, nothing, milk, tea, milk.
VISITS = [1, 3, 0, 2, 1, 2]
HISTORY = (2, [[1, 2], [3], [1, 0, 3], []])


def widest_history():
    chance = random.Random(136)
    return (12, [[chance.randrange(4096) & chance.randrange(4096) for visit in range(7)] for buyer in range(7)])


def rows_by_chance(chance, many, how_many):
    for turn in range(how_many):
        yield [chance.randrange(1, 2 ** many) for place in range(chance.randint(0, 6))]


class Fits(unittest.TestCase):
    def test_ordinary(self):
        self.assertEqual(first_fit(VISITS, [1, 2]), [0, 1])
        self.assertEqual(last_fit(VISITS, [1, 2]), [4, 5])
        self.assertEqual(short_fit(VISITS, [1, 2]), [0, 1])
        self.assertEqual(first_fit(VISITS, [3, 1, 2]), [1, 4, 5])
        self.assertEqual(first_fit(VISITS, [1, 1, 1]), [0, 1, 4])
        self.assertEqual(last_fit(VISITS, [2, 1]), [3, 4])
        self.assertEqual(first_fit(VISITS, [2, 1]), [1, 4])
        self.assertEqual(short_fit(VISITS, [2, 1]), [3, 4])

    def test_the_row_of_no_lots(self):
        for visits in ([], [0], [1, 2], VISITS):
            for fit in (first_fit, last_fit, short_fit):
                self.assertEqual(fit(visits, []), [])

    def test_none_where_the_visits_dont_have_it(self):
        for fit in (first_fit, last_fit, short_fit):
            self.assertIsNone(fit([], [1]))
            self.assertIsNone(fit([0, 0], [1]))
            self.assertIsNone(fit([1, 2], [3]))
            self.assertIsNone(fit([2, 1], [1, 2]))
            # One visit is not chosen for two lots.
            self.assertIsNone(fit([3], [1, 2]))
            self.assertIsNone(fit([1], [1, 1]))
            self.assertIsNone(fit(VISITS, [3, 3]))
            self.assertIsNone(fit([7] * 5, [7] * 6))

    def test_one_lot(self):
        self.assertEqual(first_fit(VISITS, [2]), [1])
        self.assertEqual(last_fit(VISITS, [2]), [5])
        self.assertEqual(short_fit(VISITS, [2]), [1])

    def test_rows_with_lots_that_are_alike(self):
        self.assertEqual(first_fit([1, 1, 1, 1], [1, 1]), [0, 1])
        self.assertEqual(last_fit([1, 1, 1, 1], [1, 1]), [2, 3])
        self.assertEqual(short_fit([1, 0, 1, 1], [1, 1]), [2, 3])

    def test_several_shortest_ones(self):
        # Two spans of two visits: the one that begins earliest. Within one span the first in the order of lists.
        self.assertEqual(short_fit([1, 0, 2, 1, 2, 1, 2], [1, 2]), [3, 4])
        self.assertEqual(short_fit([1, 2, 2, 4, 0, 0, 0], [1, 2, 4]), [0, 1, 3])
        self.assertEqual(short_fit([0, 1, 3, 3, 2], [1, 2]), [1, 2])
        self.assertEqual(short_fit([1, 3, 3, 2, 4], [1, 2, 4]), [2, 3, 4])
        self.assertEqual(short_fit([1, 0, 0, 2, 1, 2], [1, 2]), [4, 5])

    def test_the_first_fit_that_ends_later_than_need_be(self):
        self.assertEqual(first_fit([1, 0, 1, 2], [1, 2]), [0, 3])
        self.assertEqual(short_fit([1, 0, 1, 2], [1, 2]), [2, 3])
        self.assertEqual(last_fit([1, 2, 0, 2], [1, 2]), [0, 3])
        self.assertEqual(short_fit([1, 2, 0, 2], [1, 2]), [0, 1])

    def test_by_chance(self):
        chance = random.Random(130)
        for many, buyers in plainrows.histories(chance, 40, 4, 3, 7):
            for visits in buyers:
                for row in rows_by_chance(chance, many, 8):
                    with self.subTest(visits=visits, row=row):
                        self.assertEqual(first_fit(visits, row), plainrows.first_fit(visits, row))
                        self.assertEqual(last_fit(visits, row), plainrows.last_fit(visits, row))
                        self.assertEqual(short_fit(visits, row), plainrows.short_fit(visits, row))

    def test_twelve_things_and_seven_visits(self):
        visits = [4095, 2048, 4095, 0, 4095, 2049, 4095]
        self.assertEqual(first_fit(visits, [2048] * 6), [0, 1, 2, 4, 5, 6])
        self.assertEqual(last_fit(visits, [2048] * 5), [1, 2, 4, 5, 6])
        self.assertEqual(short_fit(visits, [2048, 4095]), [1, 2])
        self.assertEqual(short_fit(visits, [4095, 1]), [4, 5])


class Buyers(unittest.TestCase):
    def test_ordinary(self):
        self.assertEqual(row_buyers(HISTORY, [1]), [0, 1, 2])
        self.assertEqual(row_buyers(HISTORY, [3]), [1, 2])
        self.assertEqual(row_buyers(HISTORY, [1, 2]), [0, 2])
        self.assertEqual(row_buyers(HISTORY, [2, 1]), [])
        self.assertEqual([row_count(HISTORY, row) for row in ([1], [3], [1, 2], [2, 1], [1, 3])], [3, 2, 2, 0, 1])

    def test_the_row_of_no_lots_and_no_buyers(self):
        self.assertEqual(row_buyers(HISTORY, []), [0, 1, 2, 3])
        self.assertEqual(row_count(HISTORY, []), 4)
        for row in ([], [1], [1, 2]):
            self.assertEqual(row_buyers((2, []), row), [])
            self.assertEqual(row_count((2, []), row), 0)

    def test_by_chance(self):
        chance = random.Random(131)
        for history in plainrows.histories(chance, 30, 4, 7, 7):
            for row in rows_by_chance(chance, history[0], 6):
                asked = plainrows.row_buyers(history, row)
                self.assertEqual(row_buyers(history, row), asked)
                self.assertEqual(row_count(history, row), len(asked))


class LiesIn(unittest.TestCase):
    def test_ordinary(self):
        self.assertIs(lies_in([1, 2], [3, 3]), True)
        self.assertIs(lies_in([1, 2], [1, 4, 2]), True)
        self.assertIs(lies_in([1, 2], [3]), False)
        self.assertIs(lies_in([3], [1, 2]), False)
        self.assertIs(lies_in([1, 2], [2, 1]), False)

    def test_edges(self):
        self.assertIs(lies_in([], []), True)
        self.assertIs(lies_in([], [1]), True)
        self.assertIs(lies_in([1], []), False)
        self.assertIs(lies_in([1, 1], [1]), False)
        self.assertIs(lies_in([1, 1], [1, 1]), True)

    def test_by_chance(self):
        chance = random.Random(132)
        for turn in range(300):
            row, other = rows_by_chance(chance, 3, 2)
            self.assertIs(lies_in(row[:3], other), plainrows.first_fit(other, row[:3]) is not None)
            self.assertIs(lies_in(row, row), True)


class OftenRows(unittest.TestCase):
    def test_ordinary(self):
        self.assertEqual(often_rows(HISTORY, 2, 2), [([], 4), ([1], 3), ([2], 3), ([1, 2], 2), ([3], 2)])
        self.assertEqual(often_rows(HISTORY, 1, 3), [([], 4), ([1], 3), ([2], 3), ([1, 1], 1), ([1, 2], 2), ([3], 2),
                                                     ([1, 3], 1)])
        self.assertEqual(often_rows(HISTORY, 3, 6), [([], 4), ([1], 3), ([2], 3)])

    def test_a_most_of_nought(self):
        self.assertEqual(often_rows(HISTORY, 1, 0), [([], 4)])
        self.assertEqual(often_rows(HISTORY, 4, 0), [([], 4)])
        self.assertEqual(often_rows(HISTORY, 5, 0), [])
        self.assertEqual(closed_rows(HISTORY, 1, 0), [([], 4)])
        self.assertEqual(closed_rows((1, [[1], [1]]), 1, 0), [])

    def test_no_buyers_and_a_least_above_their_number(self):
        for most in (0, 3, 6):
            self.assertEqual(often_rows((3, []), 1, most), [])
            self.assertEqual(often_rows(HISTORY, 5, most), [])
            self.assertEqual(often_rows(HISTORY, FORTY, most), [])

    def test_buyers_without_visits_and_empty_visits(self):
        for buyers in ([[], []], [[0], [0, 0]], [[], [0]]):
            self.assertEqual(often_rows((3, buyers), 1, 3), [([], 2)])
            self.assertEqual(closed_rows((3, buyers), 1, 3), [([], 2)])

    def test_by_weight_then_as_lists(self):
        told = often_rows((3, [[7, 7]]), 1, 3)
        rows = [row for row, its in told]
        self.assertEqual(rows, sorted(rows, key=lambda row: (plainrows.weight(row), row)))
        # [1, 2] ahead of [3], [2, 1] between [1, 4] and [2, 2].
        self.assertEqual(rows[4:10], [[1, 1], [1, 2], [1, 4], [2, 1], [2, 2], [2, 4]])
        self.assertEqual(len(rows), len(plainrows.often_rows((3, [[7, 7]]), 1, 3)))

    def test_by_chance(self):
        chance = random.Random(133)
        for history in plainrows.histories(chance, 40, 3, 6, 4):
            for least in (1, 2, 3):
                for most in (0, 1, 2, 3):
                    with self.subTest(history=history, least=least, most=most):
                        self.assertEqual(often_rows(history, least, most), plainrows.often_rows(history, least, most))

    def test_a_most_of_six(self):
        chance = random.Random(134)
        for history in plainrows.histories(chance, 6, 2, 5, 4):
            self.assertEqual(often_rows(history, 2, 6), plainrows.often_rows(history, 2, 6))
        self.assertEqual(often_rows((1, [[1] * 7] * 7), 7, 6), [([1] * weight, 7) for weight in range(7)])
        self.assertEqual(often_rows((6, [[63]]), 1, 6)[-1], ([63], 1))

    def test_each_comes_from_just_one_often_row(self):
        chance = random.Random(135)
        for history in plainrows.histories(chance, 20, 3, 5, 4):
            rows = [row for row, its in often_rows(history, 1, 4)]
            self.assertEqual(len({tuple(row) for row in rows}), len(rows))
            for row in rows:
                if row:
                    last = row[-1] - 2 ** (row[-1].bit_length() - 1)
                    self.assertIn(row[:-1] + ([last] if last else []), rows)

    def test_twelve_things_and_seven_buyers(self):
        history = (12, [[4095, 4095]] * 7)
        with plain.within_seconds(30):
            told = often_rows(history, 7, 2)
            # Nothing, twelve things, and of two things 66 in one lot and 144 in two.
            self.assertEqual(len(told), 1 + 12 + 66 + 144)
            self.assertTrue(all(its == 7 for row, its in told))
            history = widest_history()
            told = often_rows(history, 4, 6)
            self.assertTrue(50 < len(told) <= 300)
            self.assertEqual([len(plainrows.row_buyers(history, row)) for row, its in told], [its for row, its in told])
            self.assertEqual(often_rows(history, 4, 3), [row for row in told if plainrows.weight(row[0]) <= 3])


class ClosedRows(unittest.TestCase):
    def test_ordinary(self):
        self.assertEqual(closed_rows(HISTORY, 1, 3), [([], 4), ([1], 3), ([2], 3), ([1, 2], 2), ([3], 2), ([1, 3], 1)])
        self.assertEqual(closed_rows(HISTORY, 2, 3), [([], 4), ([1], 3), ([2], 3), ([1, 2], 2), ([3], 2)])

    def test_a_thing_more_in_a_lot_or_as_a_lot_of_its_own(self):
        # Put to the lot; ahead of it, behind it, between two.
        self.assertEqual(closed_rows((2, [[3], [3]]), 2, 2), [([3], 2)])
        self.assertEqual(closed_rows((2, [[2, 1], [2, 1]]), 2, 2), [([2, 1], 2)])
        self.assertEqual(closed_rows((2, [[1, 2], [1, 2]]), 2, 2), [([1, 2], 2)])
        self.assertEqual(closed_rows((3, [[1, 4, 2]]), 1, 3), [([1, 4, 2], 1)])
        self.assertEqual(closed_rows((1, [[1, 1], [1, 1, 1]]), 1, 3), [([1, 1], 2), ([1, 1, 1], 1)])

    def test_a_closed_row_that_is_heavier_than_the_most_is_not_told(self):
        self.assertEqual(closed_rows((2, [[3, 3]]), 1, 3), [])
        self.assertEqual(closed_rows((2, [[3, 1]]), 1, 3), [([3, 1], 1)])

    def test_by_chance(self):
        chance = random.Random(137)
        for history in plainrows.histories(chance, 25, 3, 5, 3):
            for least in (1, 2):
                for most in (0, 1, 2, 3):
                    with self.subTest(history=history, least=least, most=most):
                        self.assertEqual(closed_rows(history, least, most),
                                         plainrows.closed_rows(history, least, most))

    def test_each_often_row_lies_in_a_closed_one_with_as_many_buyers(self):
        chance = random.Random(138)
        for history in plainrows.histories(chance, 20, 2, 4, 2):
            # No row of these histories weighs more than four.
            closed = closed_rows(history, 1, 4)
            for row, its in often_rows(history, 1, 4):
                self.assertTrue(any(lies_in(row, other) and other_its == its for other, other_its in closed))

    def test_twelve_things_and_seven_buyers(self):
        history = widest_history()
        with plain.within_seconds(30):
            told = closed_rows(history, 4, 3)
            self.assertTrue(told)
            self.assertEqual([row for row in often_rows(history, 4, 3) if row in told], told)
            self.assertEqual(closed_rows((12, [[4095] * 7] * 7), 7, 1), [])


class Papers(unittest.TestCase):
    def assert_looked(self, history, row, paper, asked):
        with self.subTest(history=history, row=row, paper=paper):
            self.assertIs(row_holds(history, row, paper), asked)

    TOLD = [("fits", [0, 1]), ("stuck", [0]), ("fits", [0, 2]), ("stuck", [])]

    def with_entry(self, place, entry):
        return self.TOLD[:place] + [entry] + self.TOLD[place + 1:]

    def test_told(self):
        self.assertEqual(row_paper(HISTORY, [1, 2]), self.TOLD)
        self.assertEqual(row_paper(HISTORY, []), [("fits", [])] * 4)
        self.assertEqual(row_paper((2, []), [1]), [])
        self.assertEqual(row_paper((2, [VISITS]), [1, 3, 3, 1]), [("stuck", [0, 1])])
        self.assertEqual(row_paper((2, [VISITS]), [2, 1, 2]), [("fits", [1, 4, 5])])

    def test_told_ones_are_let_by(self):
        chance = random.Random(139)
        for history in plainrows.histories(chance, 30, 4, 7, 7):
            for row in rows_by_chance(chance, history[0], 6):
                told = row_paper(history, row)
                self.assertTrue(plainrows.row_holds(history, row, told))
                self.assert_looked(history, row, told, True)
                asked = [("fits", plainrows.first_fit(visits, row)) for visits in history[1]]
                self.assertEqual([entry for entry in told if entry[0] == "fits"],
                                 [entry for entry in asked if entry[1] is not None])

    def test_right_ones_that_are_not_the_told_one(self):
        history = (2, [VISITS])
        for places in ([0, 1], [0, 3], [0, 5], [1, 3], [1, 5], [4, 5]):
            self.assert_looked(history, [1, 2], [("fits", places)], True)

    def test_places_that_do_not_fit(self):
        history = (2, [VISITS])
        # Too few, too many, twice, falling, below 0, no visit's, visits that have not the lot.
        for places in ([], [0], [5], [0, 1, 3], [0, 1, 5], [1, 1], [3, 1], [5, 4], [4, 3], [-6, 1], [-1, 1], [0, -1],
                       [0, 6], [0, FORTY], [-FORTY, 1], [0, 2], [0, 4], [2, 3], [3, 5], [6, 7], [0, 1] * 3, [4, -1]):
            self.assert_looked(history, [1, 2], [("fits", places)], False)
        self.assert_looked(history, [], [("fits", [0])], False)
        self.assert_looked(history, [], [("fits", [])], True)
        # Each place falls or stays, though each of its visits has the lots.
        self.assert_looked((1, [[1, 1, 1]]), [1, 1], [("fits", [1, 1])], False)
        self.assert_looked((1, [[1, 1, 1]]), [1, 1], [("fits", [2, 0])], False)
        self.assert_looked((1, [[1, 1, 1]]), [1, 1], [("fits", [0, 2])], True)

    def test_a_buyer_left_out_or_too_many(self):
        for paper in (self.TOLD[:-1], self.TOLD[1:], [], self.TOLD + [("stuck", [])], self.TOLD + [("fits", [0, 1])],
                      self.TOLD * 2):
            self.assert_looked(HISTORY, [1, 2], paper, False)
        self.assert_looked((2, []), [1], [("stuck", [])], False)
        self.assert_looked((2, []), [], [("fits", [])], False)
        self.assert_looked((2, []), [1], [], True)

    def test_another_word(self):
        for word in ("", "fit", "Fits", "fits ", "stick", "none", "STUCK", "stuck."):
            self.assert_looked(HISTORY, [1, 2], self.with_entry(0, (word, [0, 1])), False)
            self.assert_looked(HISTORY, [1, 2], self.with_entry(1, (word, [0])), False)
            self.assert_looked(HISTORY, [1, 2], self.with_entry(3, (word, [])), False)
            self.assert_looked(HISTORY, [], [(word, [])] * 4, False)

    def test_the_other_word(self):
        # "stuck" where the visits have the row, "fits" where they don't.
        for places in ([], [0], [0, 1], [1]):
            self.assert_looked(HISTORY, [1, 2], self.with_entry(0, ("stuck", places)), False)
        for places in ([], [0], [0, 0], [0, 1]):
            self.assert_looked(HISTORY, [1, 2], self.with_entry(1, ("fits", places)), False)
            self.assert_looked(HISTORY, [1, 2], self.with_entry(3, ("fits", places)), False)
        self.assert_looked(HISTORY, [], [("stuck", [])] * 4, False)

    def test_a_stuck_fit_that_is_not_the_first_one(self):
        history = (2, [[1, 1, 2, 2]])
        row = [1, 2, 1]
        self.assert_looked(history, row, [("stuck", [0, 2])], True)
        for places in ([1, 2], [0, 3], [1, 3], [0], [], [0, 2, 3], [0, 2, 0], [2, 0], [0, 0], [0, 1], [-4, 2], [0, -2],
                       [0, FORTY], [-FORTY, 2]):
            self.assert_looked(history, row, [("stuck", places)], False)
        self.assert_looked((2, [[2]]), [1], [("stuck", [])], True)
        self.assert_looked((2, [[2]]), [1], [("stuck", [0])], False)

    def test_buyers_in_another_order(self):
        self.assert_looked(HISTORY, [1, 2], self.TOLD[::-1], False)
        self.assert_looked(HISTORY, [2, 1], self.TOLD, False)

    def test_by_chance(self):
        chance = random.Random(140)
        held = 0
        for history in plainrows.histories(chance, 40, 3, 3, 5):
            for row in rows_by_chance(chance, history[0], 20):
                paper = [changed(chance, entry) if chance.random() < 0.5 else entry
                         for entry in row_paper(history, row[:4])]
                asked = plainrows.row_holds(history, row[:4], paper)
                held += asked
                self.assert_looked(history, row[:4], paper, asked)
        self.assertTrue(200 < held < 700)

    def test_great_numbers(self):
        history = (12, [[4095] * 7] * 7)
        with plain.within_seconds(10):
            for word in ("fits", "stuck"):
                for places in ([FORTY] * 6, [-FORTY] * 6, [0, 1, 2, 3, 4, FORTY]):
                    self.assert_looked(history, [4095] * 6, [(word, places)] * 7, False)


def changed(chance, entry):
    word = chance.choice([entry[0], entry[0], "fits", "stuck", "on"])
    places = list(entry[1])
    choice = chance.randrange(4)
    if choice == 0 and places:
        places.pop()
    elif choice == 1:
        places.append(chance.randint(-1, 5))
    elif choice == 2 and places:
        places[chance.randrange(len(places))] = chance.randint(-1, 5)
    return (word, places)


if __name__ == "__main__":
    unittest.main()
