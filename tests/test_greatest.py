"""Points [30] and [31]."""

import random
import unittest

import plain
import plainapart
import plainlevels
from oftenlots.greatest import crossings, greatest, outside, part_all
from oftenlots.levels import border

BOOK = (3, [3, 7, 0, 1, 3])
FORTY = plain.FORTY


def lots_of(rows):
    return [row[0] for row in rows]


class Greatest(unittest.TestCase):
    def test_ordinary(self):
        self.assertEqual(greatest(BOOK, 1), [(7, 1)])
        self.assertEqual(greatest(BOOK, 2), [(3, 3)])
        self.assertEqual(greatest(BOOK, 4), [(1, 4)])
        self.assertEqual(greatest(BOOK, 5), [(0, 5)])

    def test_several_rising_by_lots(self):
        self.assertEqual(greatest((3, [6, 5, 3]), 1), [(3, 1), (5, 1), (6, 1)])
        self.assertEqual(greatest((3, [4, 3]), 1), [(3, 1), (4, 1)])
        self.assertEqual(greatest((4, [8, 7, 8, 7, 9]), 2), [(7, 2), (8, 3)])
        self.assertEqual(greatest((4, [8, 7, 8, 7, 9]), 1), [(7, 2), (9, 1)])

    def test_fewer_baskets_than_least(self):
        for least in (6, FORTY):
            self.assertEqual(greatest(BOOK, least), [])
        self.assertEqual(greatest((3, []), 1), [])

    def test_empty_baskets_and_baskets_that_are_alike(self):
        self.assertEqual(greatest((3, [0, 0]), 2), [(0, 2)])
        self.assertEqual(greatest((3, [7, 7]), 2), [(7, 2)])
        self.assertEqual(greatest((3, [6, 6, 1, 0]), 1), [(1, 1), (6, 2)])

    def test_small_books(self):
        for book in plain.small_books(80):
            for least in plain.leasts_for(book):
                with self.subTest(book=book, least=least):
                    self.assertEqual(greatest(book, least), plainapart.greatest(book, least))

    def test_eight_things_and_sixty_baskets(self):
        book = (8, [255 - 2 ** (place % 8) for place in range(60)])
        with plain.within_seconds(20):
            self.assertEqual(lots_of(greatest(book, 1)), [255 - 2 ** thing for thing in range(7, -1, -1)])
            self.assertEqual(greatest((8, [255] * 60), 60), [(255, 60)])
            for least in (1, 20, 30, 45, 60):
                self.assertEqual(greatest(book, least), plainapart.greatest(book, least))


class Crossings(unittest.TestCase):
    def test_ordinary(self):
        self.assertEqual(crossings(3, [3, 5, 6]), [3, 5, 6])
        self.assertEqual(crossings(3, [7]), [1, 2, 4])
        self.assertEqual(crossings(3, [1, 6]), [3, 5])
        self.assertEqual(crossings(3, [1, 2, 4]), [7])
        self.assertEqual(crossings(4, [3, 12]), [5, 6, 9, 10])
        self.assertEqual(crossings(4, [4]), [4])

    def test_of_no_lots_the_empty_one(self):
        for many in (1, 2, 8):
            self.assertEqual(crossings(many, []), [0])

    def test_an_empty_lot_among_them(self):
        for lots in ([0], [0, 0], [0, 7], [7, 0, 3], [1, 2, 0]):
            self.assertEqual(crossings(3, lots), [])

    def test_lots_that_are_alike_or_in_another_order(self):
        self.assertEqual(crossings(3, [3, 3, 3]), [1, 2])
        self.assertEqual(crossings(3, [6, 1, 6, 1]), [3, 5])
        self.assertEqual(crossings(3, [6, 5, 3]), [3, 5, 6])
        self.assertEqual(crossings(3, [7, 1]), [1])

    def test_one_thing(self):
        self.assertEqual(crossings(1, [1]), [1])
        self.assertEqual(crossings(1, [1, 1]), [1])
        self.assertEqual(crossings(1, [0]), [])

    def test_by_chance(self):
        chance = random.Random(81)
        for turn in range(200):
            many = chance.randint(1, 5)
            lots = [chance.randrange(2 ** many) or 1 for place in range(chance.randint(0, 8))]
            with self.subTest(many=many, lots=lots):
                told = crossings(many, lots)
                self.assertEqual(told, plainapart.crossings(many, lots))
                # Of lots with none within another one the crossings of the crossings are they themselves.
                self.assertEqual(crossings(many, told), plainapart.least_ones(lots))

    def test_eight_things_and_a_hundred_lots(self):
        fours = [lot for lot in range(256) if len(plain.things(lot)) == 4]
        with plain.within_seconds(20):
            self.assertEqual(crossings(8, fours), [lot for lot in range(256) if len(plain.things(lot)) == 5])
            lots = (fours + [255] * 30)[:100]
            self.assertEqual(len(lots), 100)
            self.assertEqual(crossings(8, lots), crossings(8, fours))
            self.assertEqual(crossings(8, [255] * 100), [2 ** thing for thing in range(8)])


class Outside(unittest.TestCase):
    def test_ordinary(self):
        self.assertEqual([outside(3, lot) for lot in range(8)], [7, 6, 5, 4, 3, 2, 1, 0])
        self.assertEqual([outside(1, lot) for lot in range(2)], [1, 0])
        self.assertEqual(outside(8, 0), 255)
        self.assertEqual(outside(8, 255), 0)
        self.assertEqual(outside(8, 129), 126)

    def test_of_the_outside_the_lot(self):
        for lot in range(256):
            self.assertEqual(outside(8, lot), plainapart.outside(8, lot))
            self.assertEqual(outside(8, outside(8, lot)), lot)


class LedIntoOneAnother(unittest.TestCase):
    def assert_led(self, book, least):
        many = book[0]
        great = lots_of(greatest(book, least))
        small = lots_of(border(book, least))
        with self.subTest(book=book, least=least):
            self.assertEqual(crossings(many, [outside(many, lot) for lot in great]), small)
            self.assertEqual(sorted(outside(many, lot) for lot in crossings(many, small)), great)
            self.assertIs(part_all(many, great, small), True)

    def test_small_books(self):
        for book in plain.small_books(82):
            for least in plain.leasts_for(book):
                self.assert_led(book, least)

    def test_edges(self):
        # No often lot: the empty lot is the border. No rare one: all things are the greatest.
        self.assert_led((3, []), 1)
        self.assert_led((3, [7]), 1)
        self.assert_led((3, [0]), 1)
        self.assert_led((1, [1]), 1)
        self.assert_led((1, [0]), 1)
        self.assert_led((3, [7]), FORTY)

    def test_eight_things(self):
        chance = random.Random(83)
        for turn in range(10):
            book = (8, [chance.randrange(256) | chance.randrange(256) for place in range(60)])
            for least in (1, 5, 20, 40):
                self.assert_led(book, least)


class PartAll(unittest.TestCase):
    def test_ordinary(self):
        self.assertIs(part_all(3, [3], [4]), True)
        self.assertIs(part_all(3, [3, 5, 6], [7]), True)
        self.assertIs(part_all(3, [1, 2, 4], [3, 5, 6]), True)
        self.assertIs(part_all(3, [7], []), True)
        self.assertIs(part_all(3, [], [0]), True)
        self.assertIs(part_all(1, [0], [1]), True)

    def test_a_lot_in_neither(self):
        self.assertIs(part_all(3, [], []), False)
        self.assertIs(part_all(3, [3], []), False)
        self.assertIs(part_all(3, [], [4]), False)
        self.assertIs(part_all(3, [3, 5], [7]), False)
        self.assertIs(part_all(3, [1, 2, 4], [3, 5]), False)
        self.assertIs(part_all(3, [6], [1, 7]), True)
        self.assertIs(part_all(3, [2], [1, 7]), False)

    def test_a_lot_in_both(self):
        self.assertIs(part_all(3, [3], [4, 3]), False)
        self.assertIs(part_all(3, [3], [4, 1]), False)
        self.assertIs(part_all(3, [7], [7]), False)
        self.assertIs(part_all(3, [7], [0]), False)
        self.assertIs(part_all(3, [0], [0]), False)
        self.assertIs(part_all(3, [3, 4], [4]), False)

    def test_lots_that_are_alike_in_another_order_or_too_many(self):
        self.assertIs(part_all(3, [3, 3], [4, 4]), True)
        self.assertIs(part_all(3, [6, 3, 5], [7]), True)
        # Lots within other ones, and lots that have other ones within them.
        self.assertIs(part_all(3, [1, 3, 0], [4, 6, 7]), True)

    def test_the_other_way_round(self):
        self.assertIs(part_all(3, [4], [3]), False)
        self.assertIs(part_all(2, [1], [2]), True)
        self.assertIs(part_all(2, [2], [1]), True)

    def test_by_chance(self):
        chance = random.Random(84)
        parted = 0
        for turn in range(400):
            many = chance.randint(1, 4)
            book = (many, [chance.randrange(2 ** many) for place in range(chance.randint(0, 5))])
            great = lots_of(plainapart.greatest(book, 1))
            small = lots_of(plainlevels.border(book, 1))
            for lots in (great, small):
                if chance.random() < 0.4:
                    lots.append(chance.randrange(2 ** many))
                if lots and chance.random() < 0.2:
                    lots.pop(chance.randrange(len(lots)))
            asked = plainapart.part_all(many, great, small)
            parted += asked
            with self.subTest(many=many, great=great, small=small):
                self.assertIs(part_all(many, great, small), asked)
        self.assertTrue(100 < parted < 300)

    def test_eight_things(self):
        fours = [lot for lot in range(256) if len(plain.things(lot)) == 4]
        fives = [lot for lot in range(256) if len(plain.things(lot)) == 5]
        with plain.within_seconds(20):
            self.assertIs(part_all(8, fours, fives), True)
            self.assertIs(part_all(8, fours[:-1], fives), False)
            self.assertIs(part_all(8, fours, fives[:-1]), False)
            self.assertIs(part_all(8, fours, fours), False)


if __name__ == "__main__":
    unittest.main()
