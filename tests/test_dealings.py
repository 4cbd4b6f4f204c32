"""Points [35] and [36]."""

import itertools
import math
import random
import unittest
from fractions import Fraction

import plain
import plainapart
from oftenlots.dealings import by_surprise, mean, surprise, together

BOOK = (3, [3, 7, 0, 1, 3])


def is_in_lowest_terms(share):
    return type(share) is tuple and len(share) == 2 and share[1] >= 1 and math.gcd(*share) == 1


class Together(unittest.TestCase):
    def test_ordinary(self):
        self.assertEqual(together(3, [2, 2]), [(0, 1), (2, 3), (1, 3)])
        self.assertEqual(together(4, [2, 2]), [(1, 6), (2, 3), (1, 6)])
        self.assertEqual(together(4, [1, 2]), [(1, 2), (1, 2)])
        self.assertEqual(together(5, [2, 3, 4]), [(11, 50), (3, 5), (9, 50)])

    def test_one_count(self):
        self.assertEqual(together(4, [0]), [(1, 1)])
        self.assertEqual(together(4, [2]), [(0, 1), (0, 1), (1, 1)])
        self.assertEqual(together(2, [2]), [(0, 1), (0, 1), (1, 1)])

    def test_no_baskets(self):
        for length in range(1, 7):
            self.assertEqual(together(0, [0] * length), [(1, 1)])

    def test_counts_of_nought_and_of_all(self):
        self.assertEqual(together(3, [0, 3]), [(1, 1)])
        self.assertEqual(together(3, [3, 0, 2]), [(1, 1)])
        self.assertEqual(together(3, [3, 3, 3]), [(0, 1), (0, 1), (0, 1), (1, 1)])
        self.assertEqual(together(3, [3, 1]), [(0, 1), (1, 1)])
        self.assertEqual(together(1, [1, 1]), [(0, 1), (1, 1)])
        self.assertEqual(together(1, [1, 0]), [(1, 1)])

    def test_the_order_of_the_counts_does_not_matter(self):
        for counts in itertools.permutations([2, 3, 5]):
            self.assertEqual(together(6, list(counts)), together(6, [2, 3, 5]))

    def test_against_all_ways(self):
        for n in range(6):
            for length in (1, 2, 3):
                for counts in itertools.combinations_with_replacement(range(n + 1), length):
                    with self.subTest(n=n, counts=counts):
                        self.assertEqual(together(n, list(counts)), plainapart.together(n, counts))
        for n, counts in ((3, [1, 2, 2, 1]), (3, [2, 2, 2, 2, 2, 2]), (3, [1, 1, 2, 3, 2]), (2, [1] * 6)):
            self.assertEqual(together(n, counts), plainapart.together(n, counts))

    def test_all_shares_come_to_one(self):
        chance = random.Random(110)
        for turn in range(60):
            n = chance.randint(0, 100)
            counts = [chance.randint(0, n) for place in range(chance.randint(1, 6))]
            with self.subTest(n=n, counts=counts):
                told = together(n, counts)
                self.assertEqual(len(told), min(counts) + 1)
                self.assertTrue(all(is_in_lowest_terms(share) for share in told))
                self.assertTrue(all(share[0] >= 0 for share in told))
                self.assertEqual(sum(Fraction(*share) for share in told), 1)

    def test_a_hundred_baskets(self):
        with plain.within_seconds(20):
            told = together(100, [50] * 6)
            self.assertEqual(len(told), 51)
            self.assertEqual(told[50], (1, math.comb(100, 50) ** 5))
            self.assertEqual(sum(Fraction(*share) for share in told), 1)
            told = together(100, [60, 70])
            for t in range(61):
                asked = Fraction(math.comb(60, t) * (math.comb(40, 70 - t)), math.comb(100, 70))
                self.assertEqual(told[t], plainapart.pair(asked))


class Mean(unittest.TestCase):
    def test_ordinary(self):
        self.assertEqual(mean(3, [2, 2]), (4, 3))
        self.assertEqual(mean(4, [2, 2]), (1, 1))
        self.assertEqual(mean(5, [2, 3, 4]), (24, 25))
        self.assertEqual(mean(100, [50] * 6), (25, 16))

    def test_one_count(self):
        self.assertEqual(mean(7, [3]), (3, 1))
        self.assertEqual(mean(7, [0]), (0, 1))
        self.assertEqual(mean(7, [7]), (7, 1))

    def test_no_baskets(self):
        for length in range(1, 7):
            self.assertEqual(mean(0, [0] * length), (0, 1))

    def test_counts_of_nought_and_of_all(self):
        self.assertEqual(mean(5, [0, 3]), (0, 1))
        self.assertEqual(mean(5, [5, 3]), (3, 1))
        self.assertEqual(mean(5, [5] * 6), (5, 1))

    def test_it_is_the_sum_of_each_taken_its_share_times(self):
        chance = random.Random(111)
        for turn in range(80):
            n = chance.randint(0, 40)
            counts = [chance.randint(0, n) for place in range(chance.randint(1, 6))]
            with self.subTest(n=n, counts=counts):
                self.assertTrue(is_in_lowest_terms(mean(n, counts)))
                asked = sum(t * Fraction(*share) for t, share in enumerate(together(n, counts)))
                self.assertEqual(mean(n, counts), plainapart.pair(asked))


class Surprise(unittest.TestCase):
    def test_ordinary(self):
        # The thing 0 in four of five baskets, the thing 1 in three, both in three: 4 of the 10 ways.
        self.assertEqual(surprise(BOOK, 3), (2, 5))
        self.assertEqual(surprise(BOOK, 5), (4, 5))
        self.assertEqual(surprise(BOOK, 6), (3, 5))
        self.assertEqual(surprise(BOOK, 7), (12, 25))

    def test_one_thing_is_no_surprise(self):
        self.assertEqual([surprise(BOOK, lot) for lot in (1, 2, 4)], [(1, 1)] * 3)

    def test_a_lot_that_no_basket_has(self):
        self.assertEqual(surprise((2, [1, 2]), 3), (1, 1))
        self.assertEqual(surprise((2, [0]), 3), (1, 1))

    def test_baskets_that_are_alike_and_empty_ones(self):
        self.assertEqual(surprise((2, [3, 3]), 3), (1, 1))
        self.assertEqual(surprise((2, [3, 0]), 3), (1, 2))
        self.assertEqual(surprise((2, [3, 3, 0, 0]), 3), (1, 6))
        self.assertEqual(surprise((2, [3]), 3), (1, 1))

    def test_things_with_gaps_between(self):
        self.assertEqual(surprise((4, [9, 9, 0, 4]), 9), (1, 6))
        self.assertEqual(surprise((4, [9, 9, 0, 4]), 12), (1, 1))

    def test_against_all_ways(self):
        chance = random.Random(112)
        for turn in range(60):
            many = chance.randint(1, 3)
            book = (many, [chance.randrange(2 ** many) for place in range(chance.randint(1, 5))])
            for lot in range(1, 2 ** many):
                with self.subTest(book=book, lot=lot):
                    self.assertEqual(surprise(book, lot), plainapart.pair(plainapart.surprise(book, lot)))

    def test_six_things_and_a_hundred_baskets(self):
        chance = random.Random(113)
        book = (8, [chance.randrange(256) | chance.randrange(256) for place in range(100)])
        with plain.within_seconds(20):
            for lot in (63, 252, 3, 129, 207):
                counts = [plain.count(book, 2 ** thing) for thing in sorted(plain.things(lot))]
                shares = together(100, counts)[plain.count(book, lot):]
                asked = plainapart.pair(sum(Fraction(*share) for share in shares))
                self.assertEqual(surprise(book, lot), asked)
                self.assertTrue(is_in_lowest_terms(surprise(book, lot)))
            self.assertEqual(surprise((6, [63] * 50 + [0] * 50), 63), (1, math.comb(100, 50) ** 5))


class BySurprise(unittest.TestCase):
    def test_ordinary(self):
        # 2/5, 4/5, 3/5 and 12/25.
        self.assertEqual(by_surprise(BOOK, [3, 5, 6, 7]), [3, 7, 6, 5])
        self.assertEqual(by_surprise(BOOK, [7, 6, 5, 3]), [3, 7, 6, 5])
        self.assertEqual(by_surprise(BOOK, [5, 6]), [6, 5])

    def test_none_and_one(self):
        self.assertEqual(by_surprise(BOOK, []), [])
        self.assertEqual(by_surprise(BOOK, [5]), [5])

    def test_surprises_that_are_alike(self):
        book = (4, [3, 12, 3, 12])
        self.assertEqual([surprise(book, lot) for lot in (3, 12, 5, 6, 9, 10)], [(1, 6), (1, 6)] + [(1, 1)] * 4)
        for lots in itertools.permutations([12, 3, 10, 5]):
            self.assertEqual(by_surprise(book, list(lots)), [3, 12, 5, 10])
        self.assertEqual(by_surprise((3, [7, 7]), [7, 6, 5, 3]), [3, 5, 6, 7])

    def test_shares_over_many_bottoms(self):
        book = (4, [3, 3, 7, 5, 1, 8, 9, 15, 4, 6, 2])
        lots = [lot for lot in range(16) if len(plain.things(lot)) > 1]
        asked = sorted(lots, key=lambda lot: (Fraction(*surprise(book, lot)), lot))
        self.assertEqual(by_surprise(book, lots[::-1]), asked)
        self.assertGreater(len({surprise(book, lot)[1] for lot in lots}), 3)

    def test_by_chance(self):
        chance = random.Random(114)
        for turn in range(25):
            many = chance.randint(2, 5)
            book = (many, [chance.randrange(2 ** many) for place in range(chance.randint(1, 30))])
            lots = [lot for lot in range(2 ** many) if len(plain.things(lot)) > 1]
            chance.shuffle(lots)
            asked = sorted(lots, key=lambda lot: (Fraction(*surprise(book, lot)), lot))
            self.assertEqual(by_surprise(book, lots), asked)

    def test_a_hundred_baskets(self):
        chance = random.Random(115)
        book = (8, [chance.randrange(256) for place in range(100)])
        lots = [lot for lot in range(256) if 2 <= len(plain.things(lot)) <= 6]
        with plain.within_seconds(30):
            told = by_surprise(book, lots)
        self.assertEqual(told, sorted(lots, key=lambda lot: (Fraction(*surprise(book, lot)), lot)))


if __name__ == "__main__":
    unittest.main()
