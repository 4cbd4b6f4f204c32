"""Point [29]."""

import unittest

import plain
import plainlevels
from oftenlots.columns import by_columns, column_of, columns, gone

BOOK = (3, [3, 7, 0, 1, 3])
FORTY = plain.FORTY


class Columns(unittest.TestCase):
    def test_of_things(self):
        self.assertEqual(columns(BOOK), [0b11011, 0b10011, 0b00010])
        self.assertEqual(columns((2, [2, 1])), [2, 1])
        self.assertEqual(columns((3, [])), [0, 0, 0])
        self.assertEqual(columns((3, [0, 0])), [0, 0, 0])
        self.assertEqual(columns((2, [3, 3, 3])), [7, 7])
        self.assertEqual(columns((1, [1])), [1])

    def test_of_lots(self):
        self.assertEqual([column_of(BOOK, lot) for lot in range(8)],
                         [0b11111, 0b11011, 0b10011, 0b10011, 0b00010, 0b00010, 0b00010, 0b00010])
        self.assertEqual(column_of((2, [1, 2]), 3), 0)

    def test_of_the_empty_lot(self):
        self.assertEqual(column_of((3, []), 0), 0)
        self.assertEqual(column_of((3, [0]), 0), 1)
        self.assertEqual(column_of((3, [0, 7, 0]), 0), 7)
        self.assertEqual(column_of((1, [0] * 200), 0), 2 ** 200 - 1)

    def test_of_lots_that_no_basket_has(self):
        self.assertEqual(column_of((3, []), 7), 0)
        self.assertEqual(column_of((3, [1, 2]), 4), 0)

    def test_small_books(self):
        for book in plain.small_books(90):
            self.assertEqual(columns(book), [plainlevels.column_of(book, 2 ** thing) for thing in range(book[0])])
            for lot in range(2 ** book[0]):
                self.assertEqual(column_of(book, lot), plainlevels.column_of(book, lot))

    def test_twelve_things_and_two_hundred_baskets(self):
        book = plain.widest_book()
        self.assertEqual(columns(book), [plainlevels.column_of(book, 2 ** thing) for thing in range(12)])
        self.assertEqual(column_of(book, 4095), 0)
        self.assertEqual(column_of(book, 4094), plainlevels.column_of(book, 4094))


class Gone(unittest.TestCase):
    def test_ordinary(self):
        self.assertEqual(gone(BOOK, 2), [(1, 0, 0b00100), (2, 0, 0b01100), (3, 1, 0b01000)])
        self.assertEqual(gone(BOOK, 4), [(1, 0, 0b00100)])
        self.assertEqual(gone((3, [6, 5, 3]), 1),
                         [(1, 0, 1), (2, 0, 2), (3, 1, 2), (4, 0, 4), (5, 1, 4), (6, 2, 4)])

    def test_the_empty_lot_is_not_told(self):
        self.assertEqual(gone(BOOK, 5), [])
        self.assertEqual(gone((3, [0, 0]), 1), [])

    def test_edges(self):
        self.assertEqual(gone((3, []), 1), [])
        self.assertEqual(gone(BOOK, 6), [])
        self.assertEqual(gone(BOOK, FORTY), [])
        self.assertEqual(gone((2, [3, 3]), 2), [(1, 0, 0), (2, 0, 0), (3, 1, 0)])

    def test_counts_come_of_it(self):
        for book in plain.small_books(91):
            for lot, ahead, places in gone(book, 1):
                self.assertEqual(plain.count(book, lot), plain.count(book, ahead) - len(plain.things(places)))

    def test_small_books(self):
        for book in plain.small_books(92):
            for least in plain.leasts_for(book):
                with self.subTest(book=book, least=least):
                    self.assertEqual(gone(book, least), plainlevels.gone(book, least))


class ByColumns(unittest.TestCase):
    def test_ordinary(self):
        self.assertEqual(by_columns(BOOK, 2), [(0, 5), (1, 4), (2, 3), (3, 3)])
        self.assertEqual(by_columns(BOOK, 5), [(0, 5)])
        self.assertEqual(by_columns((3, [6, 5, 3]), 1), [(0, 3), (1, 2), (2, 2), (3, 1), (4, 2), (5, 1), (6, 1)])

    def test_edges(self):
        self.assertEqual(by_columns((3, []), 1), [])
        self.assertEqual(by_columns((3, [0, 0]), 2), [(0, 2)])
        self.assertEqual(by_columns((3, [0, 0]), 3), [])
        self.assertEqual(by_columns(BOOK, FORTY), [])
        self.assertEqual(by_columns((2, [3, 3]), 2), [(0, 2), (1, 2), (2, 2), (3, 2)])

    def test_small_books(self):
        for book in plain.small_books(93):
            for least in plain.leasts_for(book):
                with self.subTest(book=book, least=least):
                    self.assertEqual(by_columns(book, least), plainlevels.often(book, least))

    def test_twelve_things_and_two_hundred_baskets(self):
        with plain.within_seconds(60):
            for book in [plain.widest_book(), (12, [4095] * 200)] + list(plain.some_books(2, 12, 200, 94)):
                counts = [(lot, sum(basket & lot == lot for basket in book[1])) for lot in range(2 ** book[0])]
                for least in (1, 50, 150):
                    asked = [row for row in counts if row[1] >= least]
                    self.assertTrue(by_columns(book, least) == asked)
                    told = gone(book, least)
                    self.assertTrue([row[0] for row in told] == [row[0] for row in asked if row[0] > 0])
                    for row in told[::97]:
                        missing = set(plain.holders(book, row[1])) - set(plain.holders(book, row[0]))
                        self.assertEqual(row[2], plain.number(missing))


if __name__ == "__main__":
    unittest.main()
