"""Points [32], [33] and [34]."""

import random
import unittest

import plain
import plainapart
import plainlevels
from oftenlots.errors import NoRoom, OftenError
from oftenlots.rooms import count_again, ends_of_room, filled, lesser_counts, open_lots, room, settled

FORTY = plain.FORTY
TEN = 10 ** 10 - 1
# Two things: ten baskets, seven with the one, six with the other.
PAIR = [(0, 10), (1, 7), (2, 6)]
# The same with the things 1 and 4, and with things far apart.
GAPS = [(0, 10), (2, 7), (16, 6)]
FAR = [(0, 10), (2 ** 60, 7), (2 ** 132, 6)]


class LesserCounts(unittest.TestCase):
    def test_ordinary(self):
        book = (3, [3, 7, 0, 1, 3])
        self.assertEqual(lesser_counts(book, 1), [(0, 5)])
        self.assertEqual(lesser_counts(book, 3), [(0, 5), (1, 4), (2, 3)])
        self.assertEqual(lesser_counts(book, 7), [(0, 5), (1, 4), (2, 3), (3, 3), (4, 1), (5, 1), (6, 1)])

    def test_things_with_gaps_between(self):
        self.assertEqual(lesser_counts((4, [10, 2, 15]), 10), [(0, 3), (2, 3), (8, 2)])
        self.assertEqual(lesser_counts((4, [10, 2, 15]), 9), [(0, 3), (1, 1), (8, 2)])

    def test_edges(self):
        self.assertEqual(lesser_counts((2, []), 3), [(0, 0), (1, 0), (2, 0)])
        self.assertEqual(lesser_counts((2, [0, 0]), 3), [(0, 2), (1, 0), (2, 0)])
        self.assertEqual(lesser_counts((2, [3, 3]), 3), [(0, 2), (1, 2), (2, 2)])

    def test_small_books(self):
        for book in plain.small_books(90):
            for lot in range(1, 2 ** book[0]):
                with self.subTest(book=book, lot=lot):
                    self.assertEqual(lesser_counts(book, lot), plainapart.lesser_counts(book[1], lot))


class Room(unittest.TestCase):
    def test_one_thing(self):
        self.assertEqual(room(1, [(0, 5)]), (0, 5))
        self.assertEqual(room(1, [(0, 0)]), (0, 0))
        self.assertEqual(room(8, [(0, TEN)]), (0, TEN))
        self.assertIsNone(room(1, [(0, -1)]))
        self.assertIsNone(room(4, [(0, -TEN)]))

    def test_two_things(self):
        self.assertEqual(room(3, PAIR), (3, 6))
        self.assertEqual(room(3, [(0, 10), (1, 4), (2, 6)]), (0, 4))
        self.assertEqual(room(3, [(0, 10), (1, 3), (2, 4)]), (0, 3))
        self.assertEqual(room(3, [(0, 10), (1, 10), (2, 4)]), (4, 4))
        self.assertEqual(room(3, [(0, 0), (1, 0), (2, 0)]), (0, 0))

    def test_things_with_gaps_between(self):
        self.assertEqual(room(18, GAPS), (3, 6))
        with plain.within_seconds(10):
            self.assertEqual(room(2 ** 60 + 2 ** 132, FAR), (3, 6))

    def test_three_things(self):
        counts = [(0, 10), (1, 6), (2, 6), (3, 3), (4, 6), (5, 3), (6, 3)]
        self.assertEqual(room(7, counts), (0, 1))
        counts = [(0, 10), (1, 8), (2, 8), (3, 6), (4, 8), (5, 6), (6, 6)]
        self.assertEqual(room(7, counts), (4, 4))

    def test_counts_that_no_book_has(self):
        # More of one thing than baskets; fewer than none; lesser lots that can't be together.
        self.assertIsNone(room(3, [(0, 2), (1, 3), (2, 1)]))
        self.assertIsNone(room(3, [(0, 2), (1, -1), (2, 1)]))
        self.assertIsNone(room(3, [(0, -3), (1, -3), (2, -3)]))
        self.assertIsNone(room(3, [(0, TEN), (1, -TEN), (2, TEN)]))
        self.assertIsNone(room(7, [(0, 3), (1, 2), (2, 2), (3, 0), (4, 2), (5, 0), (6, 0)]))
        self.assertIsNone(room(7, [(0, 9), (1, 2), (2, 2), (3, 3), (4, 2), (5, 0), (6, 0)]))

    def test_just_one_number_or_just_none(self):
        self.assertEqual(room(3, [(0, 4), (1, 0), (2, 3)]), (0, 0))
        self.assertEqual(room(3, [(0, 4), (1, 4), (2, 4)]), (4, 4))
        self.assertIsNone(room(3, [(0, 4), (1, 5), (2, 4)]))
        self.assertIsNone(room(3, [(0, 4), (1, 5), (2, 5)]))

    def test_against_all_books_of_few_baskets(self):
        for lot, most in ((1, 5), (3, 5), (10, 4), (7, 3), (21, 3)):
            rooms = plainapart.all_rooms(lot, most)
            for counts, by_number in rooms.items():
                with self.subTest(lot=lot, counts=counts):
                    space = room(lot, list(counts))
                    # Each whole number between can be had, and no other.
                    self.assertEqual(sorted(by_number), list(range(space[0], space[1] + 1)))

    def test_counts_by_chance_against_all_books(self):
        chance = random.Random(91)
        met = []
        for lot, most in ((3, 4), (10, 4), (7, 3)):
            rooms = plainapart.all_rooms(lot, most)
            held = sorted(rooms)
            for turn in range(1500):
                counts = list(chance.choice(held))
                for change in range(chance.randint(1, 2)):
                    place = chance.randrange(len(counts))
                    counts[place] = (counts[place][0], chance.randint(-1, most))
                by_number = rooms.get(tuple(counts))
                asked = None if by_number is None else (min(by_number), max(by_number))
                met.append(asked is None)
                with self.subTest(lot=lot, counts=counts):
                    self.assertEqual(room(lot, counts), asked)
                    if asked is None:
                        self.assertIsNone(ends_of_room(lot, counts))
        self.assertTrue(500 < sum(met) < 4000)

    def test_more_things(self):
        chance = random.Random(92)
        for turn in range(60):
            own = chance.sample(range(12), chance.randint(1, 6))
            lot = sum(2 ** thing for thing in own)
            book = (12, [chance.randrange(4096) | chance.randrange(4096) for place in range(chance.randint(0, 60))])
            counts = plainapart.lesser_counts(book[1], lot)
            if chance.random() < 0.3:
                counts[-1] = (counts[-1][0], counts[-1][1] + chance.choice([-1, 1, 5]))
            with self.subTest(lot=lot, counts=counts):
                self.assertEqual(room(lot, counts), plainapart.room(lot, counts))
                self.assertEqual(ends_of_room(lot, counts), plainapart.ends_of_room(lot, counts))

    def test_nine_things(self):
        # As if each of the 512 lots were a basket once.
        even = [(part, 2 ** (9 - len(plain.things(part)))) for part in range(511)]
        with plain.within_seconds(20):
            self.assertEqual(room(511, even), (0, 2))
            self.assertEqual(ends_of_room(511, even), plainapart.ends_of_room(511, even))
            far = sum(2 ** (10 * thing) for thing in range(9))
            spread = [(sum(2 ** (10 * thing) for thing in plain.things(part)), its) for part, its in even]
            self.assertEqual(room(far, spread), (0, 2))
            great = [(part, its * 10 ** 7) for part, its in even]
            self.assertEqual(room(511, great), (0, 2 * 10 ** 7))
            self.assertIsNone(room(511, [(part, -TEN) for part in range(511)]))
            self.assertEqual(room(511, [(part, TEN) for part in range(511)]), (TEN, TEN))


class Ends(unittest.TestCase):
    def test_ordinary(self):
        self.assertEqual(ends_of_room(3, PAIR), (0, 2))
        self.assertEqual(ends_of_room(18, GAPS), (0, 16))
        self.assertEqual(ends_of_room(2 ** 60 + 2 ** 132, FAR), (0, 2 ** 132))
        self.assertEqual(ends_of_room(3, [(0, 10), (1, 5), (2, 6)]), (0, 1))

    def test_the_first_by_number(self):
        # Both lots of one thing tell the greatest count.
        self.assertEqual(ends_of_room(3, [(0, 10), (1, 6), (2, 6)]), (0, 1))
        # The lots 1, 2 and 4 tell the same from below, the lots 3, 5, 6 and 0 from above.
        counts = [(0, 10), (1, 8), (2, 8), (3, 6), (4, 8), (5, 6), (6, 6)]
        self.assertEqual(plainapart.sums(7, counts), {0: (4, True), 1: (4, False), 2: (4, False), 3: (6, True),
                                                      4: (4, False), 5: (6, True), 6: (6, True)})
        self.assertEqual(ends_of_room(7, counts), (1, 0))

    def test_nought_alone(self):
        self.assertEqual(ends_of_room(1, [(0, 5)]), (-1, 0))
        self.assertEqual(ends_of_room(4, [(0, 0)]), (-1, 0))
        self.assertEqual(ends_of_room(3, [(0, 10), (1, 3), (2, 4)]), (-1, 1))

    def test_nought_that_a_lot_tells_too(self):
        self.assertEqual(ends_of_room(3, [(0, 10), (1, 4), (2, 6)]), (0, 1))
        self.assertEqual(ends_of_room(3, [(0, 0), (1, 0), (2, 0)]), (0, 1))

    def test_none_where_the_room_is_none(self):
        self.assertIsNone(ends_of_room(1, [(0, -1)]))
        self.assertIsNone(ends_of_room(3, [(0, 2), (1, 3), (2, 1)]))
        self.assertIsNone(ends_of_room(7, [(0, 3), (1, 2), (2, 2), (3, 0), (4, 2), (5, 0), (6, 0)]))

    def test_small_books(self):
        for book in plain.small_books(93):
            for lot in range(1, 2 ** book[0]):
                counts = plainapart.lesser_counts(book[1], lot)
                with self.subTest(lot=lot, counts=counts):
                    self.assertEqual(room(lot, counts), plainapart.room(lot, counts))
                    self.assertEqual(ends_of_room(lot, counts), plainapart.ends_of_room(lot, counts))


class Filled(unittest.TestCase):
    def assert_refused(self, lot, counts, number):
        with self.subTest(lot=lot, counts=counts, number=number):
            with self.assertRaises(NoRoom):
                filled(lot, counts, number)

    def test_each_number_of_a_room(self):
        self.assertEqual(filled(3, PAIR, 3), [1] * 4 + [2] * 3 + [3] * 3)
        self.assertEqual(filled(3, PAIR, 4), [0] + [1] * 3 + [2] * 2 + [3] * 4)
        self.assertEqual(filled(3, PAIR, 5), [0] * 2 + [1] * 2 + [2] + [3] * 5)
        self.assertEqual(filled(3, PAIR, 6), [0] * 3 + [1] + [3] * 6)

    def test_the_numbers_beside_it(self):
        for number in (2, 7, 0, -1, -3, 10, FORTY, -FORTY):
            self.assert_refused(3, PAIR, number)
        for number in (-1, 6, FORTY):
            self.assert_refused(1, [(0, 5)], number)

    def test_things_with_gaps_between(self):
        self.assertEqual(filled(18, GAPS, 6), [0] * 3 + [2] + [18] * 6)
        self.assertEqual(filled(18, GAPS, 3), [2] * 4 + [16] * 3 + [18] * 3)
        one, other = 2 ** 60, 2 ** 132
        with plain.within_seconds(10):
            self.assertEqual(filled(one + other, FAR, 6), [0] * 3 + [one] + [one + other] * 6)
            self.assert_refused(one + other, FAR, 7)

    def test_no_baskets_and_one_number(self):
        self.assertEqual(filled(1, [(0, 0)], 0), [])
        self.assertEqual(filled(3, [(0, 0), (1, 0), (2, 0)], 0), [])
        self.assertEqual(filled(3, [(0, 4), (1, 4), (2, 4)], 4), [3] * 4)
        self.assert_refused(3, [(0, 4), (1, 4), (2, 4)], 3)
        self.assert_refused(3, [(0, 4), (1, 4), (2, 4)], 5)
        self.assert_refused(1, [(0, 0)], 1)

    def test_where_the_room_is_none(self):
        for number in (-1, 0, 1, 2, 3, FORTY, -FORTY):
            self.assert_refused(3, [(0, 2), (1, 3), (2, 1)], number)
            self.assert_refused(1, [(0, -1)], number)
            self.assert_refused(7, [(0, 3), (1, 2), (2, 2), (3, 0), (4, 2), (5, 0), (6, 0)], number)

    def test_refused_of_however_many_baskets(self):
        with plain.within_seconds(10):
            for number in (-1, TEN + 1, FORTY, -FORTY):
                self.assert_refused(1, [(0, TEN)], number)
            self.assert_refused(3, [(0, TEN), (1, TEN), (2, TEN)], TEN - 1)
            self.assert_refused(3, [(0, TEN), (1, TEN), (2, 5)], 4)
            self.assert_refused(3, [(0, TEN), (1, 5), (2, -TEN)], 0)

    def test_refusals_are_often_errors(self):
        with self.assertRaises(OftenError):
            filled(1, [(0, 5)], 6)

    def test_against_all_books_of_few_baskets(self):
        for lot, most in ((1, 5), (3, 5), (10, 4), (7, 3), (21, 3)):
            for counts, by_number in plainapart.all_rooms(lot, most).items():
                for number in range(-1, most + 2):
                    books = by_number.get(number, [])
                    if not books:
                        self.assert_refused(lot, list(counts), number)
                        continue
                    # There is just one.
                    self.assertEqual([filled(lot, list(counts), number)], books)

    def test_more_things_and_three_hundred_baskets(self):
        chance = random.Random(94)
        for turn in range(12):
            lot = sum(2 ** thing for thing in chance.sample(range(12), chance.choice([3, 4, 6])))
            baskets = sorted(chance.randrange(4096) & lot for place in range(300))
            counts = plainapart.lesser_counts(baskets, lot)
            self.assertEqual(filled(lot, counts, baskets.count(lot)), baskets)
            low, high = plainapart.room(lot, counts)
            for number in {low, (low + high) // 2, high}:
                told = filled(lot, counts, number)
                self.assertEqual(told, sorted(told))
                self.assertEqual(plainapart.lesser_counts(told, lot), counts)
                self.assertEqual(told.count(lot), number)
            self.assert_refused(lot, counts, low - 1)
            self.assert_refused(lot, counts, high + 1)

    def test_nine_things(self):
        even = [(part, sum(len(plain.things(basket)) % 2 == 0 and basket & part == part for basket in range(512)))
                for part in range(511)]
        with plain.within_seconds(20):
            self.assertEqual(room(511, even), (0, 1))
            self.assertEqual(filled(511, even, 0), [lot for lot in range(512) if len(plain.things(lot)) % 2 == 0])
            self.assertEqual(filled(511, even, 1), [lot for lot in range(512) if len(plain.things(lot)) % 2 == 1])
            self.assert_refused(511, even, 2)


class Settled(unittest.TestCase):
    def test_ordinary(self):
        book = (2, [3, 3, 1])
        self.assertEqual([settled(book, lot) for lot in range(4)], [False, False, False, True])
        book = (2, [3, 0, 1, 2])
        self.assertEqual([settled(book, lot) for lot in range(4)], [False, False, False, False])

    def test_the_empty_lot_never_is(self):
        for book in plain.EDGE_BOOKS:
            self.assertIs(settled(book, 0), False)

    def test_without_baskets_every_other_one_is(self):
        self.assertEqual([settled((3, []), lot) for lot in range(8)], [False] + [True] * 7)

    def test_small_books(self):
        for book in plain.small_books(95):
            told = [settled(book, lot) for lot in range(2 ** book[0])]
            with self.subTest(book=book):
                self.assertEqual(told, [plainapart.settled(book, lot) for lot in range(2 ** book[0])])
                # What has a settled one within it is settled.
                for lot in range(2 ** book[0]):
                    self.assertTrue(told[lot] or not any(told[part] for part in plain.fewer(lot)))

    def test_lots_of_more_than_nine_things(self):
        chance = random.Random(96)
        books = [(12, [chance.randrange(4096) for place in range(200)]), (12, []), (12, list(range(200))),
                 (12, [4095] * 200), (10, [chance.randrange(1024) for place in range(60)])]
        with plain.within_seconds(20):
            for book in books:
                for lot in range(2 ** book[0]):
                    if len(plain.things(lot)) > 9:
                        self.assertIs(settled(book, lot), True)

    def test_nine_things_by_their_room(self):
        # Every lot of an even number of things once: then the lot of nine things is not settled by the others.
        book = (9, [lot for lot in range(512) if len(plain.things(lot)) % 2 == 0])
        self.assertIs(settled(book, 511), False)
        self.assertIs(settled((9, [511] * 60), 511), True)
        self.assertIs(settled((9, [0] * 60), 511), True)


class Open(unittest.TestCase):
    def test_ordinary(self):
        self.assertEqual(open_lots((2, [3, 3, 1]), 1), [(0, 3), (1, 3), (2, 2)])
        self.assertEqual(open_lots((2, [3, 3, 1]), 3), [(0, 3), (1, 3)])
        self.assertEqual(open_lots((2, [3, 0, 1, 2]), 1), [(0, 4), (1, 2), (2, 2), (3, 1)])
        self.assertEqual(open_lots((2, [3, 0, 1, 2]), 2), [(0, 4), (1, 2), (2, 2)])

    def test_no_baskets_and_a_least_above_their_number(self):
        self.assertEqual(open_lots((3, []), 1), [])
        self.assertEqual(open_lots((3, [7, 0]), 3), [])
        self.assertEqual(open_lots((3, [7, 0]), FORTY), [])
        self.assertEqual(open_lots((3, [0]), 1), [(0, 1)])

    def test_small_books(self):
        for book in plain.small_books(97):
            for least in plain.leasts_for(book):
                with self.subTest(book=book, least=least):
                    self.assertEqual(open_lots(book, least), plainapart.open_lots(book, least))

    def test_eight_things_and_sixty_baskets(self):
        chance = random.Random(98)
        with plain.within_seconds(60):
            book = (8, [chance.randrange(256) | chance.randrange(256) for place in range(60)])
            self.assertEqual(open_lots(book, 2), plainapart.open_lots(book, 2))
            self.assertEqual(open_lots((8, [255] * 60), 1), [(0, 60)] + [(2 ** thing, 60) for thing in range(8)])

    def test_twelve_things_leave_no_more_than_nine(self):
        chance = random.Random(99)
        book = (12, [chance.randrange(4096) | chance.randrange(4096) for place in range(200)])
        with plain.within_seconds(60):
            self.assertLessEqual(max(len(plain.things(lot)) for lot, its in open_lots(book, 1)), 9)


class CountAgain(unittest.TestCase):
    def test_ordinary(self):
        opened = [(0, 3), (1, 3), (2, 2)]
        self.assertEqual([count_again(opened, 1, lot) for lot in range(4)], [3, 3, 2, 2])
        self.assertEqual([count_again([(0, 3), (1, 3)], 3, lot) for lot in range(4)], [3, 3, None, None])

    def test_a_lot_with_a_rare_one_within(self):
        # The thing 1 is rare, and so is the lot of both.
        book = (2, [1, 1, 2])
        opened = open_lots(book, 2)
        self.assertEqual(opened, [(0, 3), (1, 2)])
        self.assertEqual([count_again(opened, 2, lot) for lot in range(4)], [3, 2, None, None])

    def test_a_settled_lot_that_is_rare(self):
        # Each lot of two things is there once, which settles that of three: its count is known, but below the least.
        book = (3, [3, 5, 6])
        self.assertEqual(open_lots(book, 1), [(0, 3), (1, 2), (2, 2), (3, 1), (4, 2), (5, 1), (6, 1)])
        self.assertIs(settled(book, 7), True)
        self.assertIsNone(count_again(open_lots(book, 1), 1, 7))

    def test_a_rare_lot_that_is_not_settled(self):
        book = (2, [3, 0, 1, 2])
        self.assertIsNone(count_again(open_lots(book, 2), 2, 3))
        self.assertEqual(count_again(open_lots(book, 1), 1, 3), 1)

    def test_a_settled_lot_just_as_often_as_least(self):
        book = (2, [3, 3, 1])
        self.assertEqual(count_again(open_lots(book, 2), 2, 3), 2)
        self.assertIsNone(count_again(open_lots(book, 3), 3, 3))

    def test_nothing_is_often(self):
        self.assertEqual([count_again([], 1, lot) for lot in range(4)], [None] * 4)
        self.assertIsNone(count_again([], FORTY, 0))

    def test_small_books(self):
        for book in plain.small_books(100):
            for least in plain.leasts_for(book):
                opened = plainapart.open_lots(book, least)
                often = dict(plainlevels.often(book, least))
                for lot in range(2 ** book[0]):
                    with self.subTest(book=book, least=least, lot=lot):
                        self.assertEqual(count_again(opened, least, lot), often.get(lot))

    def test_seven_things(self):
        chance = random.Random(101)
        with plain.within_seconds(60):
            for turn in range(4):
                book = (7, [chance.randrange(128) | chance.randrange(128) for place in range(60)])
                for least in (1, 4, 20):
                    opened = open_lots(book, least)
                    often = dict(plainlevels.often(book, least))
                    for lot in (0, 1, 64, 127, 126, 95, 85, 42):
                        self.assertEqual(count_again(opened, least, lot), often.get(lot))


if __name__ == "__main__":
    unittest.main()
