import unittest

import plain
from oftenlots.leastlots import all_least, by_closed, by_least, kin, least_lots

BOOK = (3, [3, 7, 0, 1, 3])
FORTY = plain.FORTY


class LeastLots(unittest.TestCase):
    def test_ordinary(self):
        self.assertEqual(least_lots(BOOK, 0), [0])
        self.assertEqual(least_lots(BOOK, 1), [1])
        self.assertEqual(least_lots(BOOK, 3), [2])
        self.assertEqual(least_lots(BOOK, 7), [4])

    def test_several_of_one_closed_lot(self):
        self.assertEqual(least_lots((3, [3, 3, 0]), 3), [1, 2])
        self.assertEqual(least_lots((3, [1, 2, 4]), 7), [3, 5, 6])

    def test_the_empty_lot_is_one(self):
        self.assertEqual(least_lots((3, []), 7), [0])
        self.assertEqual(least_lots((3, [5, 5]), 5), [0])
        self.assertEqual(least_lots((3, [0]), 0), [0])

    def test_all_things_that_no_basket_has(self):
        self.assertEqual(least_lots((3, [6, 5, 3]), 7), [7])
        self.assertEqual(least_lots((2, [0, 0]), 3), [1, 2])

    def test_small_books(self):
        for book in plain.small_books(10):
            closed = {plain.closing(book, lot) for lot in range(2 ** book[0])}
            for lot in closed:
                with self.subTest(book=book, lot=lot):
                    self.assertEqual(least_lots(book, lot), plain.least_lots(book, lot))


class AllLeast(unittest.TestCase):
    def test_ordinary(self):
        self.assertEqual(all_least(BOOK, 1), [(0, 5), (1, 4), (2, 3), (4, 1)])
        self.assertEqual(all_least(BOOK, 3), [(0, 5), (1, 4), (2, 3)])
        self.assertEqual(all_least((3, [6, 5, 3]), 1), [(0, 3), (1, 2), (2, 2), (3, 1), (4, 2), (5, 1), (6, 1)])

    def test_one_lot_fewer_with_the_same_count_is_enough_to_be_none(self):
        self.assertEqual(all_least((2, [1, 3]), 1), [(0, 2), (2, 1)])

    def test_fewer_baskets_than_least(self):
        self.assertEqual(all_least((3, []), 1), [])
        self.assertEqual(all_least(BOOK, 6), [])
        self.assertEqual(all_least(BOOK, FORTY), [])

    def test_empty_and_alike_baskets(self):
        self.assertEqual(all_least((3, [0, 0]), 1), [(0, 2)])
        self.assertEqual(all_least((3, [7, 7]), 2), [(0, 2)])

    def test_small_books(self):
        for book in plain.small_books(11):
            for least in plain.leasts_for(book):
                with self.subTest(book=book, least=least):
                    self.assertEqual(all_least(book, least), plain.all_least(book, least))

    def test_eight_things_and_sixty_baskets(self):
        book = (8, [255 - 2 ** (place % 8) for place in range(60)])
        with plain.within_seconds(60):
            self.assertTrue(all_least(book, 1) == [(lot, plain.count(book, lot)) for lot in range(255)])
            self.assertEqual(least_lots(book, 255), [255])
            self.assertEqual(kin(book, 254), 1)
            self.assertEqual(kin((8, [255] * 60), 255), 256)
            self.assertEqual(kin((8, []), 255), 256)


class CountsComeBack(unittest.TestCase):
    def test_by_closed(self):
        closed = [(0, 5), (1, 4), (3, 3)]
        self.assertEqual([by_closed(closed, lot) for lot in range(8)], [5, 4, 3, 3, None, None, None, None])
        self.assertIsNone(by_closed([], 0))
        self.assertEqual(by_closed([(7, 2)], 0), 2)
        self.assertEqual(by_closed([(7, 2)], 7), 2)

    def test_by_least(self):
        leasts = [(0, 5), (1, 4), (2, 3)]
        self.assertEqual([by_least(leasts, [4], lot) for lot in range(8)], [5, 4, 3, 3, None, None, None, None])
        self.assertIsNone(by_least([], [0], 0))
        self.assertIsNone(by_least([], [0], 7))
        self.assertEqual(by_least([(0, 2)], [], 7), 2)

    def test_a_rare_lot_within_goes_ahead_of_the_leasts(self):
        self.assertIsNone(by_least([(0, 3), (1, 2), (2, 2)], [3], 3))
        self.assertEqual(by_least([(0, 3), (1, 2), (2, 2)], [3], 2), 2)

    def test_counts_of_all_lots_come_back(self):
        for book in plain.small_books(12):
            for least in plain.leasts_for(book):
                closed = plain.closed_lots(book, least)
                leasts = plain.all_least(book, least)
                rares = plain.least_rare(book, least)
                for lot in range(2 ** book[0]):
                    own = plain.count(book, lot)
                    asked = own if own >= least else None
                    with self.subTest(book=book, least=least, lot=lot):
                        self.assertEqual(by_closed(closed, lot), asked)
                        self.assertEqual(by_least(leasts, rares, lot), asked)


class Kin(unittest.TestCase):
    def test_ordinary(self):
        self.assertEqual([kin(BOOK, lot) for lot in (0, 1, 3, 7)], [1, 1, 2, 4])

    def test_edges(self):
        self.assertEqual(kin((3, []), 7), 8)
        self.assertEqual(kin((3, [0]), 0), 1)
        self.assertEqual(kin((3, [0]), 7), 7)
        self.assertEqual(kin((3, [5]), 5), 4)
        self.assertEqual(kin((3, [5]), 7), 4)

    def test_small_books(self):
        for book in plain.small_books(13):
            for lot in {plain.closing(book, part) for part in range(2 ** book[0])}:
                with self.subTest(book=book, lot=lot):
                    self.assertEqual(kin(book, lot), plain.kin(book, lot))

    def test_kins_come_to_the_number_of_often_lots(self):
        for book in plain.some_books(10, 6, 20, 14):
            for least in (1, 2, 4, FORTY):
                often = sum(plain.count(book, lot) >= least for lot in range(2 ** book[0]))
                self.assertEqual(sum(kin(book, row[0]) for row in plain.closed_lots(book, least)), often)


if __name__ == "__main__":
    unittest.main()
