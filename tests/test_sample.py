"""Points [45] and [46]."""

import random
import unittest

import plain
import plainlevels
import plainrows
from oftenlots.sample import from_part, gone_on

BOOK = (3, [3, 7, 0, 1, 3])
OFTEN = [(0, 5), (1, 4), (2, 3), (3, 3)]
FORTY = plain.FORTY


def places_for(chance, book):
    places = list(range(len(book[1])))
    yield []
    yield places
    for turn in range(4):
        chance.shuffle(places)
        yield places[:chance.randint(0, len(places))]


class FromPart(unittest.TestCase):
    def test_whole(self):
        self.assertEqual(from_part(BOOK, 2, [0, 1, 2, 3, 4], 2), ("whole", OFTEN))
        self.assertEqual(from_part(BOOK, 2, [1, 0], 1), ("whole", OFTEN))
        self.assertEqual(from_part(BOOK, 2, [1], 1), ("whole", OFTEN))
        # The part's lower least tells of 4 too, which is rare in the book.
        self.assertEqual(from_part(BOOK, 4, [1, 2], 1), ("whole", [(0, 5), (1, 4)]))

    def test_missed(self):
        self.assertEqual(from_part(BOOK, 2, [3, 2], 1), ("missed", [(2, 3)]))
        self.assertEqual(from_part(BOOK, 1, [3, 2], 1), ("missed", [(2, 3), (4, 1)]))
        self.assertEqual(from_part(BOOK, 2, [2], 1), ("missed", [(1, 4), (2, 3)]))
        self.assertEqual(from_part(BOOK, 2, [3, 2], 2), ("missed", [(1, 4), (2, 3)]))

    def test_a_part_of_no_baskets(self):
        # Then the empty lot alone is the border.
        self.assertEqual(from_part(BOOK, 2, [], 1), ("missed", [(0, 5)]))
        self.assertEqual(from_part(BOOK, 5, [], FORTY), ("missed", [(0, 5)]))
        self.assertEqual(from_part(BOOK, 6, [], 1), ("whole", []))
        self.assertEqual(from_part((3, []), 1, [], 1), ("whole", []))

    def test_a_lower_least_above_the_least_and_above_the_part(self):
        self.assertEqual(from_part(BOOK, 2, [0, 1, 2, 3, 4], 4), ("missed", [(2, 3)]))
        self.assertEqual(from_part(BOOK, 2, [0, 1, 2, 3, 4], 6), ("missed", [(0, 5)]))
        self.assertEqual(from_part(BOOK, 2, [0], FORTY), ("missed", [(0, 5)]))
        self.assertEqual(from_part(BOOK, FORTY, [0, 4], 1), ("whole", []))

    def test_places_in_any_order(self):
        for places in ([0, 1, 3], [3, 1, 0], [1, 3, 0]):
            self.assertEqual(from_part(BOOK, 2, places, 1), ("whole", OFTEN))

    def test_counts_are_those_of_the_book(self):
        self.assertEqual(from_part((2, [1, 1, 1, 2]), 1, [3], 1), ("missed", [(1, 3)]))
        self.assertEqual(from_part((2, [1, 1, 1, 2]), 1, [0, 3], 1), ("whole", [(0, 4), (1, 3), (2, 1)]))

    def test_small_books(self):
        chance = random.Random(150)
        words = []
        for book in plain.small_books(151):
            for places in places_for(chance, book):
                for least in (1, 2, 3, len(book[1]) + 1):
                    lower = chance.choice([1, 1, 2, 3, FORTY])
                    told = from_part(book, least, places, lower)
                    words.append(told[0])
                    with self.subTest(book=book, least=least, places=places, lower=lower):
                        self.assertEqual(told, plainrows.from_part(book, least, places, lower))
        self.assertTrue(min(words.count("missed"), words.count("whole")) > 100)

    def test_eight_things_and_sixty_baskets(self):
        chance = random.Random(152)
        book = (8, [chance.randrange(256) | chance.randrange(256) for place in range(60)])
        with plain.within_seconds(30):
            for lower in (1, 3):
                self.assertEqual(from_part(book, 10, list(range(0, 60, 2)), lower),
                                 plainrows.from_part(book, 10, list(range(0, 60, 2)), lower))
            self.assertEqual(from_part(book, 10, list(range(60)), 10), ("whole", plainlevels.often(book, 10)))


class GoneOn(unittest.TestCase):
    def test_no_rounds(self):
        self.assertEqual(gone_on(BOOK, 2, [0, 1, 2, 3, 4], 2), (OFTEN, 0))
        self.assertEqual(gone_on(BOOK, 2, [1], 1), (OFTEN, 0))
        self.assertEqual(gone_on((3, []), 1, [], 1), ([], 0))
        self.assertEqual(gone_on(BOOK, 6, [], 1), ([], 0))

    def test_rounds(self):
        # Counted first are 0, 1, 2, 4: then 3 is asked, behind it no more.
        self.assertEqual(gone_on(BOOK, 2, [3, 2], 1), (OFTEN, 1))
        # With the least of 1 then 3, 5, 6, and then 7.
        self.assertEqual(gone_on(BOOK, 1, [3, 2], 1), (plainlevels.often(BOOK, 1), 2))
        # From the empty lot on: things, then lots of two.
        self.assertEqual(gone_on(BOOK, 2, [], 1), (OFTEN, 2))
        self.assertEqual(gone_on(BOOK, 1, [], 1), (plainlevels.often(BOOK, 1), 3))

    def test_a_round_that_finds_nothing_often_counts_too(self):
        self.assertEqual(gone_on((2, [0, 0]), 1, [], 1), ([(0, 2)], 1))
        self.assertEqual(gone_on((2, [1, 2]), 1, [], 1), ([(0, 2), (1, 1), (2, 1)], 2))

    def test_rounds_behind_a_part_that_missed_none(self):
        # The lower least is above the part: the empty lot alone is counted first.
        self.assertEqual(gone_on(BOOK, 5, [0, 1], FORTY), ([(0, 5)], 1))

    def test_places_in_any_order(self):
        for places in ([2, 3], [3, 2]):
            self.assertEqual(gone_on(BOOK, 1, places, 1), (plainlevels.often(BOOK, 1), 2))

    def test_no_rounds_where_the_part_tells_the_whole(self):
        chance = random.Random(153)
        for book in plain.small_books(154):
            for places in places_for(chance, book):
                for least in (1, 2):
                    if from_part(book, least, places, 1)[0] == "whole":
                        self.assertEqual(gone_on(book, least, places, 1), (plainlevels.often(book, least), 0))

    def test_small_books(self):
        chance = random.Random(155)
        met = []
        for book in plain.small_books(156):
            for places in places_for(chance, book):
                for least in (1, 2, 3, len(book[1]) + 1):
                    lower = chance.choice([1, 1, 2, 3, FORTY])
                    told = gone_on(book, least, places, lower)
                    met.append(told[1])
                    with self.subTest(book=book, least=least, places=places, lower=lower):
                        self.assertEqual(told, plainrows.gone_on(book, least, places, lower))
                        self.assertEqual(told[0], plainlevels.often(book, least))
        self.assertLessEqual({0, 1, 2, 3}, set(met))

    def test_eight_things_and_sixty_baskets(self):
        book = (8, [255] * 60)
        with plain.within_seconds(30):
            self.assertEqual(gone_on(book, 60, [], 1), ([(lot, 60) for lot in range(256)], 8))
            self.assertEqual(gone_on(book, 60, [59], 1), ([(lot, 60) for lot in range(256)], 0))
            self.assertEqual(gone_on(book, FORTY, list(range(60)), FORTY), ([], 0))


if __name__ == "__main__":
    unittest.main()
