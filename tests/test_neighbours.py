"""Points [12] and [13]."""

import unittest

import plain
import plainrules
from oftenlots.neighbours import above, baskets_of, below, join, just, longest, meet

# All closed lots of (3, [3, 7, 0, 1, 3]) with least 1, and those of (3, [6, 5, 3]).
CLOSED = [(0, 5), (1, 4), (3, 3), (7, 1)]
CROWN = [(0, 3), (1, 2), (2, 2), (3, 1), (4, 2), (5, 1), (6, 1)]


# Every lot but that of all things: the most that a list of so many things can be.
def fullest(many):
    return plain.closed_lots((many, [2 ** many - 1 - 2 ** thing for thing in range(many)]), 1)


class AboveAndBelow(unittest.TestCase):
    def test_in_a_row(self):
        self.assertEqual([above(CLOSED, lot) for lot in (0, 1, 3, 7)], [[1], [3], [7], []])
        self.assertEqual([below(CLOSED, lot) for lot in (0, 1, 3, 7)], [[], [0], [1], [3]])

    def test_several_rising(self):
        self.assertEqual(above(CROWN, 0), [1, 2, 4])
        self.assertEqual(above(CROWN, 1), [3, 5])
        self.assertEqual(above(CROWN, 4), [5, 6])
        self.assertEqual(above(CROWN, 6), [])
        self.assertEqual(below(CROWN, 6), [2, 4])
        self.assertEqual(below(CROWN, 3), [1, 2])
        self.assertEqual(below(CROWN, 4), [0])
        self.assertEqual(below(CROWN, 0), [])

    def test_only_listed_ones_lie_between(self):
        self.assertEqual(above([(0, 2), (7, 1)], 0), [7])
        self.assertEqual(below([(0, 2), (7, 1)], 7), [0])
        self.assertEqual(above([(0, 3), (3, 2), (4, 2), (7, 1)], 0), [3, 4])
        self.assertEqual(below([(0, 3), (3, 2), (4, 2), (7, 1)], 7), [3, 4])

    def test_a_lesser_number_that_lies_within_no_other(self):
        self.assertEqual(above([(0, 3), (3, 1), (4, 1)], 0), [3, 4])
        self.assertEqual(above([(0, 9), (2, 4), (5, 4), (6, 3), (7, 1)], 0), [2, 5])
        self.assertEqual(below([(0, 9), (1, 5), (2, 5), (5, 4), (7, 1)], 7), [2, 5])

    def test_a_list_of_one(self):
        self.assertEqual(above([(5, 2)], 5), [])
        self.assertEqual(below([(5, 2)], 5), [])

    def test_small_books(self):
        for book in plain.small_books(20):
            for least in plain.leasts_for(book):
                closed = plain.closed_lots(book, least)
                for lot, own in closed:
                    with self.subTest(book=book, least=least, lot=lot):
                        self.assertEqual(above(closed, lot), plainrules.above(closed, lot))
                        self.assertEqual(below(closed, lot), plainrules.below(closed, lot))

    def test_eight_things(self):
        closed = fullest(8)
        with plain.within_seconds(60):
            for lot, own in closed:
                more = [lot + 2 ** thing for thing in range(8) if not lot & 2 ** thing and lot + 2 ** thing != 255]
                self.assertEqual(above(closed, lot), more)
                self.assertEqual(below(closed, lot), sorted(plain.fewer(lot)))


class MeetAndJoin(unittest.TestCase):
    def test_meet(self):
        self.assertEqual(meet(6, 3), 2)
        self.assertEqual(meet(3, 6), 2)
        self.assertEqual(meet(5, 2), 0)
        self.assertEqual(meet(5, 5), 5)
        self.assertEqual(meet(0, 7), 0)
        self.assertEqual(meet(plain.FORTY, 2 ** 100 + 1), plain.FORTY & (2 ** 100 + 1))

    def test_join(self):
        book = (3, [3, 7, 0, 1, 3])
        self.assertEqual(join(book, 0, 0), 0)
        self.assertEqual(join(book, 1, 0), 1)
        self.assertEqual(join(book, 0, 2), 3)
        self.assertEqual(join(book, 2, 1), 3)
        self.assertEqual(join(book, 4, 1), 7)

    def test_join_of_lots_that_no_basket_has_together(self):
        self.assertEqual(join((3, [1, 2, 4]), 1, 2), 7)
        self.assertEqual(join((3, []), 0, 0), 7)
        self.assertEqual(join((2, [0, 0]), 0, 1), 3)

    def test_join_of_the_empty_lot_is_not_always_empty(self):
        self.assertEqual(join((3, [5, 4]), 0, 0), 4)

    def test_small_books(self):
        for book in plain.small_books(21):
            closed = [row[0] for row in plain.closed_lots(book, 1)] + [2 ** book[0] - 1]
            for one in range(2 ** book[0]):
                for other in range(2 ** book[0]):
                    both = plain.number(plain.things(one) | plain.things(other))
                    self.assertEqual(join(book, one, other), plain.closing(book, both))
            for one in closed:
                for other in closed:
                    self.assertIn(meet(one, other), closed)
                    self.assertIn(join(book, one, other), closed)


class Longest(unittest.TestCase):
    def test_one_alone(self):
        self.assertEqual(longest([]), [])
        self.assertEqual(longest([(0, 4)]), [0])
        self.assertEqual(longest([(5, 4)]), [5])
        self.assertEqual(longest(CLOSED), [0, 1, 3, 7])

    def test_the_longer_of_two(self):
        self.assertEqual(len(longest([(0, 9), (1, 5), (2, 5), (3, 4), (8, 2)])), 3)
        self.assertEqual(longest([(0, 9), (4, 5), (8, 5), (9, 4), (11, 2)]), [0, 8, 9, 11])
        self.assertEqual(longest([(0, 9), (1, 5), (3, 4), (7, 3), (8, 2)]), [0, 1, 3, 7])

    def test_small_books(self):
        for book in plain.small_books(22):
            for least in plain.leasts_for(book):
                closed = plain.closed_lots(book, least)
                told = longest(closed)
                with self.subTest(book=book, least=least):
                    self.assertTrue(all(lot in dict(closed) for lot in told))
                    self.assertTrue(plainrules.is_row(closed, told))
                    self.assertEqual(len(told), plainrules.longest_length(closed))

    def test_it_does_not_go_through_all_rows(self):
        # 39,916,800 rows lead from the empty lot to those of ten things.
        with plain.within_seconds(30):
            told = longest(fullest(11))
        self.assertEqual(len(told), 11)
        self.assertEqual([len(plain.things(lot)) for lot in told], list(range(11)))
        self.assertTrue(all(plainrules.within(one, other) for one, other in zip(told, told[1:])))


class Just(unittest.TestCase):
    def test_ordinary(self):
        self.assertEqual(just(CLOSED), [(0, 1), (1, 1), (3, 2), (7, 1)])
        self.assertEqual(baskets_of(CLOSED), [0, 1, 3, 3, 7])

    def test_closed_lots_that_are_no_baskets_are_left_out(self):
        self.assertEqual(just(CROWN), [(3, 1), (5, 1), (6, 1)])
        self.assertEqual(baskets_of(CROWN), [3, 5, 6])

    def test_no_baskets(self):
        self.assertEqual(just([]), [])
        self.assertEqual(baskets_of([]), [])

    def test_empty_and_alike_baskets(self):
        self.assertEqual(just([(0, 3)]), [(0, 3)])
        self.assertEqual(baskets_of([(0, 3)]), [0, 0, 0])
        self.assertEqual(baskets_of([(0, 4), (7, 2)]), [0, 0, 7, 7])
        self.assertEqual(just([(6, 5)]), [(6, 5)])

    def test_the_books_baskets_come_back(self):
        books = list(plain.small_books(23)) + list(plain.some_books(5, 8, 60, 24))
        for book in books:
            closed = plain.closed_lots(book, 1)
            with self.subTest(book=book):
                self.assertEqual(just(closed), plainrules.just(book))
                self.assertEqual(baskets_of(closed), sorted(book[1]))

    def test_sums_are_counts(self):
        for book in plain.small_books(25):
            told = just(plain.closed_lots(book, 1))
            for lot in range(2 ** book[0]):
                self.assertEqual(sum(many for one, many in told if one & lot == lot), plain.count(book, lot))

    def test_eight_things_and_sixty_baskets(self):
        book = (8, [255 - 2 ** (place % 8) for place in range(60)])
        with plain.within_seconds(30):
            self.assertEqual(baskets_of(plain.closed_lots(book, 1)), sorted(book[1]))


if __name__ == "__main__":
    unittest.main()
