import unittest

import plain
from oftenlots.books import closing, common, count, holders, is_closed

BOOK = (3, [3, 7, 0, 1, 3])


class Counts(unittest.TestCase):
    def test_ordinary(self):
        self.assertEqual([count(BOOK, lot) for lot in range(8)], [5, 4, 3, 3, 1, 1, 1, 1])

    def test_empty_lot_is_in_every_basket(self):
        self.assertEqual(count(BOOK, 0), 5)
        self.assertEqual(count((3, [0, 0]), 0), 2)
        self.assertEqual(count((3, []), 0), 0)

    def test_lot_that_no_basket_has(self):
        self.assertEqual(count((3, [3, 5, 6]), 7), 0)
        self.assertEqual(holders((3, [3, 5, 6]), 7), [])
        self.assertEqual(count((3, [0, 0]), 1), 0)

    def test_a_lot_is_had_only_with_all_its_things(self):
        self.assertEqual(count((3, [1, 2, 4]), 3), 0)
        self.assertEqual(holders((3, [1, 3, 2, 7]), 3), [1, 3])

    def test_alike_baskets_count_each(self):
        self.assertEqual(count((2, [3, 3, 3]), 3), 3)
        self.assertEqual(holders((2, [3, 0, 3, 3]), 1), [0, 2, 3])


class Holders(unittest.TestCase):
    def test_ordinary(self):
        self.assertEqual(holders(BOOK, 1), [0, 1, 3, 4])
        self.assertEqual(holders(BOOK, 2), [0, 1, 4])
        self.assertEqual(holders(BOOK, 7), [1])
        self.assertEqual(holders(BOOK, 0), [0, 1, 2, 3, 4])

    def test_no_baskets(self):
        self.assertEqual(holders((3, []), 0), [])
        self.assertEqual(holders((3, []), 7), [])


class Common(unittest.TestCase):
    def test_ordinary(self):
        self.assertEqual(common(BOOK, [0, 1]), 3)
        self.assertEqual(common(BOOK, [1]), 7)
        self.assertEqual(common(BOOK, [1, 3]), 1)
        self.assertEqual(common((3, [6, 5]), [0, 1]), 4)

    def test_of_no_places_it_is_all_things(self):
        for many in range(1, 13):
            self.assertEqual(common((many, []), []), 2 ** many - 1)
            self.assertEqual(common((many, [0, 1]), []), 2 ** many - 1)

    def test_nothing_in_common(self):
        self.assertEqual(common((3, [1, 2]), [0, 1]), 0)
        self.assertEqual(common(BOOK, [1, 2]), 0)

    def test_places_in_any_order_and_more_than_once(self):
        self.assertEqual(common(BOOK, [4, 1, 0]), 3)
        self.assertEqual(common(BOOK, [1, 1]), 7)
        self.assertEqual(common(BOOK, [3, 1, 3, 0, 1]), 1)


class Closings(unittest.TestCase):
    def test_ordinary(self):
        self.assertEqual([closing(BOOK, lot) for lot in range(8)], [0, 1, 3, 3, 7, 7, 7, 7])
        self.assertEqual([is_closed(BOOK, lot) for lot in range(8)],
                         [True, True, False, True, False, False, False, True])

    def test_closing_of_the_empty_lot(self):
        self.assertEqual(closing((3, [5, 7]), 0), 5)
        self.assertIs(is_closed((3, [5, 7]), 0), False)
        self.assertIs(is_closed((3, [5, 2]), 0), True)

    def test_closing_of_a_lot_that_no_basket_has_is_all_things(self):
        self.assertEqual(closing((3, [1, 2, 4]), 3), 7)
        self.assertIs(is_closed((3, [1, 2, 4]), 3), False)
        self.assertIs(is_closed((3, [1, 2, 4]), 7), True)

    def test_no_baskets(self):
        for lot in range(8):
            self.assertEqual(closing((3, []), lot), 7)
            self.assertIs(is_closed((3, []), lot), lot == 7)

    def test_all_things_are_always_closed(self):
        for book in plain.small_books(1):
            self.assertIs(is_closed(book, 2 ** book[0] - 1), True)


class AgainstThePlainWords(unittest.TestCase):
    def look_at(self, book, lots):
        for lot in lots:
            places = plain.holders(book, lot)
            self.assertEqual(holders(book, lot), places)
            self.assertEqual(count(book, lot), len(places))
            self.assertEqual(common(book, places), plain.common(book, places))
            self.assertEqual(closing(book, lot), plain.closing(book, lot))
            self.assertIs(is_closed(book, lot), plain.closing(book, lot) == lot)

    def test_small_books(self):
        for book in plain.small_books(2):
            with self.subTest(book=book):
                self.look_at(book, range(2 ** book[0]))

    def test_twelve_things_and_two_hundred_baskets(self):
        for book in [plain.widest_book(), (12, [(p * 2654435761) % 4096 for p in range(200)]), (12, [])]:
            self.look_at(book, [0, 1, 2048, 4095, 4094, 2047, 1365, 72])
        self.assertEqual(count(plain.widest_book(), 4094), 17)
        self.assertEqual(holders((12, [4095] * 200), 4095), list(range(200)))


if __name__ == "__main__":
    unittest.main()
