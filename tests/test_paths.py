"""Points [26], [27] and [28]."""

import unittest

import plain
import plainlevels
from oftenlots.paths import cut_tree, ends, grown, order, tree_of

BOOK = (3, [3, 7, 0, 1, 3])
FORTY = plain.FORTY
# Counts by things: 2, 4, 4, 1. So the order is 1, 2, 0, 3 for a least of 1.
OTHER = (4, [6, 3, 14, 2, 7, 4, 0])


def cuts_of(tree, least, depth):
    """Cuts of cuts, each with the tree and the thing that it comes of."""
    for thing in sorted({node[1] for node in tree if node[1] >= 0}):
        yield tree, thing
        if depth > 1:
            yield from cuts_of(plainlevels.cut_tree(tree, thing, least), least, depth - 1)


class Order(unittest.TestCase):
    def test_the_greater_count_first(self):
        self.assertEqual(order(BOOK, 1), [0, 1, 2])
        self.assertEqual(order((3, [4, 6, 7]), 1), [2, 1, 0])
        self.assertEqual(order((3, [4, 6, 7]), 2), [2, 1])

    def test_of_as_many_the_lesser_thing_first(self):
        self.assertEqual(order(OTHER, 1), [1, 2, 0, 3])
        self.assertEqual(order((4, [15, 15]), 1), [0, 1, 2, 3])
        self.assertEqual(order((4, [8, 4, 2, 1]), 1), [0, 1, 2, 3])
        self.assertEqual(order((4, [8, 8, 1, 1, 6]), 1), [0, 3, 1, 2])

    def test_only_often_things(self):
        self.assertEqual(order(BOOK, 3), [0, 1])
        self.assertEqual(order(BOOK, 4), [0])
        self.assertEqual(order(BOOK, 5), [])
        self.assertEqual(order(BOOK, FORTY), [])

    def test_edges(self):
        self.assertEqual(order((3, []), 1), [])
        self.assertEqual(order((3, [0, 0]), 1), [])
        self.assertEqual(order((1, [1]), 1), [0])

    def test_small_books(self):
        for book in plain.small_books(80):
            for least in plain.leasts_for(book):
                self.assertEqual(order(book, least), plainlevels.order(book, least))


class Trees(unittest.TestCase):
    def test_ordinary(self):
        self.assertEqual(tree_of(BOOK, 1), [(-1, -1, 5), (0, 0, 4), (1, 1, 3), (2, 2, 1)])
        self.assertEqual(tree_of(BOOK, 2), [(-1, -1, 5), (0, 0, 4), (1, 1, 3)])
        self.assertEqual(tree_of(BOOK, 4), [(-1, -1, 5), (0, 0, 4)])

    def test_new_nodes_come_at_the_end_of_the_list(self):
        self.assertEqual(tree_of(OTHER, 1), [(-1, -1, 7), (0, 1, 5), (1, 2, 3), (1, 0, 1), (2, 3, 1), (2, 0, 1),
                                             (0, 2, 1)])
        self.assertEqual(tree_of(OTHER, 2), [(-1, -1, 7), (0, 1, 5), (1, 2, 3), (1, 0, 1), (2, 0, 1), (0, 2, 1)])

    def test_the_baskets_order_is_kept(self):
        self.assertEqual(tree_of((2, [1, 2]), 1), [(-1, -1, 2), (0, 0, 1), (0, 1, 1)])
        self.assertEqual(tree_of((2, [2, 1]), 1), [(-1, -1, 2), (0, 1, 1), (0, 0, 1)])

    def test_edges(self):
        self.assertEqual(tree_of((3, []), 1), [(-1, -1, 0)])
        self.assertEqual(tree_of((3, [0, 0]), 1), [(-1, -1, 2)])
        self.assertEqual(tree_of((3, [7, 7]), 2), [(-1, -1, 2), (0, 0, 2), (1, 1, 2), (2, 2, 2)])
        self.assertEqual(tree_of((3, [7, 7]), 3), [(-1, -1, 2)])
        self.assertEqual(tree_of((3, [7, 7]), FORTY), [(-1, -1, 2)])

    def test_small_books(self):
        for book in plain.small_books(81):
            for least in plain.leasts_for(book):
                with self.subTest(book=book, least=least):
                    self.assertEqual(tree_of(book, least), plainlevels.tree_of(book, least))

    def test_twelve_things_and_sixty_baskets(self):
        for book in list(plain.some_books(4, 12, 60, 82)) + [(12, [4095 - place for place in range(60)])]:
            for least in (1, 10):
                self.assertTrue(tree_of(book, least) == plainlevels.tree_of(book, least))


class Ends(unittest.TestCase):
    def test_ordinary(self):
        self.assertEqual(ends(tree_of(BOOK, 1)), [(0, 1), (1, 1), (3, 2), (7, 1)])
        self.assertEqual(ends(tree_of(BOOK, 2)), [(0, 1), (1, 1), (3, 3)])
        self.assertEqual(ends(tree_of(BOOK, FORTY)), [(0, 5)])

    def test_rising_by_lots(self):
        self.assertEqual(ends(tree_of(OTHER, 1)), [(0, 1), (2, 1), (3, 1), (4, 1), (6, 1), (7, 1), (14, 1)])

    def test_only_where_some_baskets_end(self):
        self.assertEqual(ends([(-1, -1, 0)]), [])
        self.assertEqual(ends([(-1, -1, 2)]), [(0, 2)])
        self.assertEqual(ends([(-1, -1, 2), (0, 1, 2), (1, 0, 2)]), [(3, 2)])
        self.assertEqual(ends([(-1, -1, 4), (0, 2, 3), (1, 0, 1), (1, 1, 1)]), [(0, 1), (4, 1), (5, 1), (6, 1)])

    def test_small_books(self):
        for book in plain.small_books(83):
            for least in plain.leasts_for(book):
                tree = plainlevels.tree_of(book, least)
                with self.subTest(book=book, least=least):
                    self.assertEqual(ends(tree), plainlevels.ends(tree))
                    self.assertEqual(ends(tree), plainlevels.baskets_without_rare_things(book, least))

    def test_cut_trees(self):
        for book in plain.small_books(84):
            for tree, thing in cuts_of(plainlevels.tree_of(book, 1), 1, 2):
                cut = plainlevels.cut_tree(tree, thing, 1)
                self.assertEqual(ends(cut), plainlevels.ends(cut))


class Cuts(unittest.TestCase):
    def test_ordinary(self):
        tree = tree_of(BOOK, 1)
        self.assertEqual(cut_tree(tree, 2, 1), [(-1, -1, 1), (0, 0, 1), (1, 1, 1)])
        self.assertEqual(cut_tree(tree, 1, 1), [(-1, -1, 3), (0, 0, 3)])
        self.assertEqual(cut_tree(tree, 0, 1), [(-1, -1, 4)])

    def test_only_the_things_ahead(self):
        tree = tree_of(OTHER, 1)
        self.assertEqual(cut_tree(tree, 2, 1), [(-1, -1, 4), (0, 1, 3)])
        self.assertEqual(cut_tree(tree, 0, 1), [(-1, -1, 2), (0, 1, 2), (1, 2, 1)])

    def test_things_that_come_fewer_times_than_least_are_left_out(self):
        tree = tree_of(OTHER, 1)
        self.assertEqual(cut_tree(tree, 0, 2), [(-1, -1, 2), (0, 1, 2)])
        self.assertEqual(cut_tree(tree, 0, 3), [(-1, -1, 2)])
        self.assertEqual(cut_tree(tree, 0, FORTY), [(-1, -1, 2)])

    def test_ways_count_as_often_as_their_nodes(self):
        tree = [(-1, -1, 9), (0, 0, 8), (1, 1, 5), (2, 2, 4), (1, 2, 1), (0, 2, 1)]
        self.assertEqual(cut_tree(tree, 2, 1), [(-1, -1, 6), (0, 0, 5), (1, 1, 4)])
        self.assertEqual(cut_tree(tree, 2, 5), [(-1, -1, 6), (0, 0, 5)])

    def test_ordered_anew_by_its_own_counts(self):
        # In the book 0 is ahead of 1, but beside 2 it comes less often.
        book = (3, [1, 1, 1, 3, 6, 6, 5])
        self.assertEqual(order(book, 1), [0, 1, 2])
        tree = tree_of(book, 1)
        self.assertEqual(cut_tree(tree, 2, 1), [(-1, -1, 3), (0, 1, 2), (0, 0, 1)])
        # And of as many the lesser thing is first.
        book = (4, [8, 8, 9, 9, 14, 15, 4, 4, 4, 2, 2])
        self.assertEqual(order(book, 1), [3, 2, 1, 0])
        self.assertEqual(cut_tree(tree_of(book, 1), 0, 1), [(-1, -1, 3), (0, 3, 3), (1, 1, 1), (2, 2, 1)])

    def test_a_thing_that_is_in_no_node(self):
        for tree in (tree_of(BOOK, 2), [(-1, -1, 0)], [(-1, -1, 7)]):
            # The root's -1 is no thing.
            for thing in (2, 3, 11, FORTY, -1):
                self.assertEqual(cut_tree(tree, thing, 1), [(-1, -1, 0)])

    def test_small_books(self):
        for book in plain.small_books(85):
            for least in (1, 2, 3):
                for lower in (1, least):
                    for tree, thing in cuts_of(plainlevels.tree_of(book, lower), lower, 3):
                        with self.subTest(book=book, least=least, tree=tree, thing=thing):
                            self.assertEqual(cut_tree(tree, thing, least), plainlevels.cut_tree(tree, thing, least))


class Grown(unittest.TestCase):
    def test_ordinary(self):
        self.assertEqual(grown(BOOK, 2), [(0, 5), (1, 4), (2, 3), (3, 3)])
        self.assertEqual(grown(BOOK, 5), [(0, 5)])
        self.assertEqual(grown((3, [6, 5, 3]), 1), [(0, 3), (1, 2), (2, 2), (3, 1), (4, 2), (5, 1), (6, 1)])

    def test_edges(self):
        self.assertEqual(grown((3, []), 1), [])
        self.assertEqual(grown((3, [0, 0]), 1), [(0, 2)])
        self.assertEqual(grown((3, [0, 0]), 3), [])
        self.assertEqual(grown(BOOK, 6), [])
        self.assertEqual(grown(BOOK, FORTY), [])
        self.assertEqual(grown((2, [3, 3]), 2), [(0, 2), (1, 2), (2, 2), (3, 2)])

    def test_small_books(self):
        for book in plain.small_books(86):
            for least in plain.leasts_for(book):
                with self.subTest(book=book, least=least):
                    self.assertEqual(grown(book, least), plainlevels.often(book, least))

    def test_twelve_things_and_sixty_baskets(self):
        books = [(12, [4095 - 2 ** (place % 12) for place in range(60)]), (12, [4095] * 60)]
        with plain.within_seconds(60):
            for book in books + list(plain.some_books(3, 12, 60, 87)):
                counts = [(lot, sum(basket & lot == lot for basket in book[1])) for lot in range(2 ** book[0])]
                for least in (1, 12, 40):
                    self.assertTrue(grown(book, least) == [row for row in counts if row[1] >= least])


if __name__ == "__main__":
    unittest.main()
