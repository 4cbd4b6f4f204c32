"""Points [15], [18] and [19]."""

import random
import unittest
from fractions import Fraction

import plain
import plainrules
from oftenlots.fewrules import few_rules, served, short_rules, way

BOOK = (3, [3, 7, 0, 1, 3])
FORTY = plain.FORTY


def all_holding(book):
    lots = range(2 ** book[0])
    return [(first, then) for first in lots for then in lots if plainrules.holds(book, (first, then))]


class FewRules(unittest.TestCase):
    def test_ordinary(self):
        self.assertEqual(few_rules(BOOK), [(2, 1), (4, 3)])
        self.assertEqual(few_rules((3, [1, 2, 4])), [(3, 4), (5, 2), (6, 1)])
        self.assertEqual(few_rules((3, [3, 3, 4, 4])), [(1, 2), (2, 1)])

    def test_none(self):
        self.assertEqual(few_rules((1, [0, 1])), [])
        self.assertEqual(few_rules((3, [6, 5, 3])), [])
        self.assertEqual(few_rules((2, [0, 1, 2])), [])

    def test_a_lot_without_the_closing_of_a_wanting_one_within_wants_none(self):
        # 4 brings 2: so 5, which has 4 and lacks 2, is left out; 7 is all things and closed.
        self.assertEqual(few_rules((3, [1, 2, 6, 0])), [(3, 4), (4, 2)])
        self.assertEqual(few_rules((4, [0, 6, 7, 15])), [(1, 6), (2, 4), (4, 2), (8, 7)])

    def test_a_wanting_lot_that_holds_the_closings_of_others(self):
        # 2 brings 1 along, and 7 is wanting as it has that.
        self.assertEqual(few_rules((4, [1, 3, 4, 13, 11])), plainrules.few_rules((4, [1, 3, 4, 13, 11])))
        self.assertEqual(few_rules((4, [0, 3, 4])), [(1, 2), (2, 1), (7, 8), (8, 7)])

    def test_no_baskets(self):
        self.assertEqual(few_rules((3, [])), [(0, 7)])
        self.assertEqual(few_rules((1, [])), [(0, 1)])

    def test_the_empty_lot_that_wants_a_rule(self):
        self.assertEqual(few_rules((3, [5, 5])), [(0, 5)])
        self.assertEqual(few_rules((3, [7])), [(0, 7)])
        self.assertEqual(few_rules((3, [5, 7, 4])), [(0, 4), (6, 1)])
        self.assertEqual(few_rules((2, [1])), [(0, 1)])

    def test_empty_baskets(self):
        self.assertEqual(few_rules((3, [0, 0])), [(1, 6), (2, 5), (4, 3)])
        self.assertEqual(few_rules((1, [0])), [])

    def test_all_baskets_count_however_seldom(self):
        self.assertEqual(few_rules((2, [3] * 59 + [1])), [(0, 1)])
        self.assertEqual(few_rules((2, [3] * 58 + [1, 2])), [])

    def test_small_books(self):
        for book in plain.small_books(40):
            with self.subTest(book=book):
                self.assertEqual(few_rules(book), plainrules.few_rules(book))

    def test_up_to_eight_things_and_sixty_baskets(self):
        with plain.within_seconds(60):
            for book in plain.some_books(6, 8, 60, 41):
                self.assertEqual(few_rules(book), plainrules.few_rules(book))
            pairs = (8, [2 ** (place % 8) for place in range(60)])
            self.assertEqual(few_rules(pairs), plainrules.few_rules(pairs))


class Served(unittest.TestCase):
    def test_ordinary(self):
        self.assertEqual(served(BOOK, [(2, 1), (4, 3)]), [0, 1])
        self.assertEqual(served(BOOK, [(4, 3), (2, 1)]), [1, 0])
        self.assertEqual(served(BOOK, [(4, 1), (4, 2), (2, 1)]), [2, 0])
        self.assertEqual(served(BOOK, [(4, 3)]), [None, 0])
        self.assertEqual(served(BOOK, [(2, 1)]), [0, None])

    def test_no_rules(self):
        self.assertEqual(served(BOOK, []), [None, None])
        self.assertEqual(served((1, [0, 1]), []), [])
        self.assertEqual(served((1, [0, 1]), [(0, 0), (1, 1)]), [])
        self.assertEqual(served((3, []), []), [None])

    def test_rules_that_are_alike(self):
        self.assertEqual(served(BOOK, [(4, 3), (4, 3), (2, 1), (2, 1)]), [2, 0])

    def test_first_must_lie_in_the_lot(self):
        self.assertEqual(served(BOOK, [(3, 1), (6, 1)]), [None, None])

    def test_first_must_have_the_same_closing(self):
        # Both lie in 7, which wants a rule; 1 and 2 close to 3, but 5 and 6 to all things, as 7 does.
        book = (4, [0, 3, 4])
        self.assertEqual(few_rules(book), [(1, 2), (2, 1), (7, 8), (8, 7)])
        self.assertEqual(served(book, [(1, 8), (3, 8), (6, 8), (5, 8)]), [0, None, 2, None])

    def test_then_must_not_lie_in_the_lot(self):
        book = (4, [0, 3, 4])
        self.assertEqual(served(book, [(5, 3), (5, 2), (7, 0), (5, 10)]), [None, None, 3, None])
        self.assertEqual(served(BOOK, [(2, 2), (2, 3)]), [1, None])

    def test_rules_that_do_not_hold_are_told_likewise(self):
        self.assertEqual(served((3, [3, 7]), [(0, 4), (0, 3)]), [0])

    def test_the_empty_lot_that_wants_a_rule(self):
        self.assertEqual(served((3, []), [(1, 7), (0, 0), (0, 2), (0, 7)]), [2])
        self.assertEqual(served((3, [5, 5]), [(4, 1), (0, 4), (0, 5)]), [1])

    def test_small_books_and_rules_by_chance(self):
        chance = random.Random(42)
        for book in plain.small_books(43):
            for length in (1, 3, 20, 100):
                rules = [(chance.randrange(2 ** book[0]), chance.randrange(2 ** book[0])) for place in range(length)]
                with self.subTest(book=book, rules=rules):
                    self.assertEqual(served(book, rules), plainrules.served(book, rules))

    def test_the_few_rules_serve_themselves(self):
        for book in plain.small_books(44):
            rules = plainrules.few_rules(book)
            self.assertEqual(served(book, rules), list(range(len(rules))))

    def test_lists_from_which_all_follow_have_another_one_for_each(self):
        chance = random.Random(45)
        for book in plain.small_books(46):
            holding = all_holding(book)
            chance.shuffle(holding)
            rules = list(holding)
            # What follows from the others goes, by chance, so that the list gets short.
            for rule in holding[:200]:
                others = [other for other in rules if other != rule]
                if plainrules.follows(others, rule)[0] == "by":
                    rules = others
            told = served(book, rules)
            with self.subTest(book=book, rules=rules):
                self.assertNotIn(None, told)
                self.assertEqual(len(set(told)), len(plainrules.few_rules(book)))


class Way(unittest.TestCase):
    def test_the_only_one(self):
        closed = [(0, 5), (1, 4), (3, 3), (7, 1)]
        self.assertEqual(way(closed, 0, 7), [0, 1, 3, 7])
        self.assertEqual(way(closed, 1, 3), [1, 3])
        self.assertEqual(way(closed, 3, 3), [3])
        self.assertEqual(way([(5, 2)], 5, 5), [5])

    def test_no_way_leads_aside(self):
        closed = [(0, 9), (1, 3), (2, 3), (4, 3), (6, 2), (8, 1)]
        self.assertEqual(way(closed, 0, 8), [0, 8])
        self.assertEqual(way(closed, 2, 6), [2, 6])
        self.assertIn(way(closed, 0, 6), ([0, 2, 6], [0, 4, 6]))

    def test_small_books(self):
        for book in plain.small_books(47):
            for least in (1, 2, 3):
                closed = plain.closed_lots(book, least)
                for one, own in closed:
                    for other, its in closed:
                        if not plainrules.within(one, other):
                            continue
                        told = way(closed, one, other)
                        with self.subTest(book=book, least=least, one=one, other=other):
                            self.assertEqual((told[0], told[-1]), (one, other))
                            self.assertTrue(plainrules.is_row(closed, told))

    def test_shares_are_products_along_ways(self):
        for book in plain.small_books(48):
            for least in (1, 2):
                closed = plain.closed_lots(book, least)
                counts = dict(closed)
                for first in range(2 ** book[0]):
                    for then in range(2 ** book[0]):
                        if plain.count(book, first | then) < least:
                            continue
                        told = way(closed, plain.closing(book, first), plain.closing(book, first | then))
                        product = Fraction(1)
                        for one, other in zip(told, told[1:]):
                            product *= Fraction(counts[other], counts[one])
                        share = (product.numerator, product.denominator)
                        self.assertEqual(share, plainrules.share(book, (first, then)))

    def test_eight_things(self):
        closed = plain.closed_lots((8, [255 - 2 ** thing for thing in range(8)]), 1)
        with plain.within_seconds(30):
            for other, its in closed:
                self.assertEqual(len(way(closed, 0, other)), len(plain.things(other)) + 1)


class ShortRules(unittest.TestCase):
    def test_ordinary(self):
        self.assertEqual(short_rules(BOOK, 1, (0, 1)),
                         [(0, 1, 4, (4, 5)), (0, 3, 3, (3, 5)), (0, 7, 1, (1, 5)), (1, 2, 3, (3, 4)),
                          (1, 6, 1, (1, 4)), (2, 1, 3, (1, 1)), (2, 5, 1, (1, 3)), (4, 3, 1, (1, 1))])
        self.assertEqual(short_rules(BOOK, 2, (0, 1)),
                         [(0, 1, 4, (4, 5)), (0, 3, 3, (3, 5)), (1, 2, 3, (3, 4)), (2, 1, 3, (1, 1))])

    def test_shares_no_less_than_the_told_one(self):
        self.assertEqual(short_rules(BOOK, 2, (3, 4)), [(0, 1, 4, (4, 5)), (1, 2, 3, (3, 4)), (2, 1, 3, (1, 1))])
        self.assertEqual(short_rules(BOOK, 2, (76, 100)), [(0, 1, 4, (4, 5)), (2, 1, 3, (1, 1))])
        self.assertEqual(short_rules(BOOK, 2, (75, 100)), short_rules(BOOK, 2, (3, 4)))
        self.assertEqual(short_rules(BOOK, 2, (1, 1)), [(2, 1, 3, (1, 1))])
        self.assertEqual(short_rules(BOOK, 2, (101, 100)), [])

    def test_lowest_terms(self):
        self.assertEqual(short_rules((2, [1, 1, 3, 3]), 1, (0, 1)),
                         [(0, 1, 4, (1, 1)), (0, 3, 2, (1, 2)), (2, 1, 2, (1, 1))])

    def test_a_share_of_any_two_numbers(self):
        whole = short_rules(BOOK, 1, (0, 1))
        for share in ((-1, 1), (-1, 5), (-FORTY, 1), (-FORTY, FORTY), (0, FORTY), (1, FORTY), (-1, FORTY)):
            self.assertEqual(short_rules(BOOK, 1, share), whole)
        for share in ((FORTY, 1), (2, 1), (FORTY, FORTY - 1), (6, 5)):
            self.assertEqual(short_rules(BOOK, 1, share), [])
        self.assertEqual(short_rules(BOOK, 1, (FORTY, FORTY)), [(2, 1, 3, (1, 1)), (4, 3, 1, (1, 1))])
        # Just below and just above four fifths.
        self.assertEqual(len(short_rules(BOOK, 1, (4 * 10 ** 38 - 1, 5 * 10 ** 38))), 3)
        self.assertEqual(len(short_rules(BOOK, 1, (4 * 10 ** 38, 5 * 10 ** 38))), 3)
        self.assertEqual(len(short_rules(BOOK, 1, (4 * 10 ** 38 + 1, 5 * 10 ** 38))), 2)

    def test_edges(self):
        for share in ((0, 1), (1, 1), (-3, 2)):
            self.assertEqual(short_rules((3, []), 1, share), [])
            self.assertEqual(short_rules((3, [0, 0]), 1, share), [])
            self.assertEqual(short_rules(BOOK, 6, share), [])
            self.assertEqual(short_rules(BOOK, FORTY, share), [])
            self.assertEqual(short_rules((3, [7, 7]), 2, share), [(0, 7, 2, (1, 1))])

    def test_small_books(self):
        for book in plain.small_books(49):
            for least in (1, 2, 3):
                for share in ((0, 1), (1, 2), (2, 3), (1, 1), (-1, 2), (3, 7)):
                    with self.subTest(book=book, least=least, share=share):
                        self.assertEqual(short_rules(book, least, share), plainrules.short_rules(book, least, share))

    def test_six_things_and_sixty_baskets(self):
        book = (6, [63 - 2 ** (place % 6) for place in range(60)])
        with plain.within_seconds(60):
            told = short_rules(book, 1, (1, 2))
            self.assertTrue(told == plainrules.short_rules(book, 1, (1, 2)))
        self.assertGreater(len(told), 100)


if __name__ == "__main__":
    unittest.main()
