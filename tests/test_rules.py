"""Points [14], [16] and [17]."""

import random
import unittest

import plain
import plainrules
from oftenlots.rules import brought_on, follow_holds, follows, holds, rule_count, share

BOOK = (3, [3, 7, 0, 1, 3])
FORTY = plain.FORTY
# The second and third go in a ring, the fourth stands there again, the last never brings anything.
RULES = [(8, 16), (1, 2), (2, 5), (1, 2), (4, 8), (6, 0)]


def some_rules(chance, many, most):
    return [(chance.randrange(2 ** many), chance.randrange(2 ** many)) for place in range(chance.randint(0, most))]


class Shares(unittest.TestCase):
    def test_counts(self):
        self.assertEqual(rule_count(BOOK, (1, 2)), 3)
        self.assertEqual(rule_count(BOOK, (2, 1)), 3)
        self.assertEqual(rule_count(BOOK, (0, 0)), 5)
        self.assertEqual(rule_count(BOOK, (1, 1)), 4)
        self.assertEqual(rule_count(BOOK, (4, 3)), 1)
        self.assertEqual(rule_count((3, []), (0, 0)), 0)

    def test_shares(self):
        self.assertEqual(share(BOOK, (1, 2)), (3, 4))
        self.assertEqual(share(BOOK, (0, 4)), (1, 5))
        self.assertEqual(share(BOOK, (2, 4)), (1, 3))

    def test_lowest_terms(self):
        self.assertEqual(share((2, [1, 1, 3, 3]), (1, 2)), (1, 2))
        self.assertEqual(share((2, [1] * 2 + [3] * 4), (1, 2)), (2, 3))
        self.assertEqual(share((2, [1] * 60 + [3] * 140), (1, 2)), (7, 10))
        self.assertEqual(share((2, [3] * 6), (1, 2)), (1, 1))
        self.assertEqual(share((2, [1] * 6), (1, 2)), (0, 1))
        self.assertEqual(share((2, [1] * 6), (1, 0)), (1, 1))

    def test_no_basket_has_first(self):
        self.assertIsNone(share((3, [3, 3]), (4, 1)))
        self.assertIsNone(share((3, [3, 3]), (4, 0)))
        self.assertIsNone(share((3, []), (0, 1)))
        self.assertIsNone(share((3, []), (0, 0)))

    def test_always_holds(self):
        self.assertIs(holds(BOOK, (2, 1)), True)
        self.assertIs(holds(BOOK, (1, 2)), False)
        self.assertIs(holds(BOOK, (4, 3)), True)
        self.assertIs(holds(BOOK, (0, 1)), False)
        self.assertIs(holds(BOOK, (0, 0)), True)
        self.assertIs(holds(BOOK, (7, 0)), True)

    def test_always_holds_where_no_basket_has_first(self):
        self.assertIs(holds((3, []), (0, 7)), True)
        self.assertIs(holds((3, [3]), (4, 7)), True)
        self.assertIs(holds((3, [0]), (1, 6)), True)

    def test_small_books(self):
        for book in plain.small_books(30):
            for first in range(2 ** book[0]):
                for then in (0, 1, first, 2 ** book[0] - 1, first ^ (2 ** book[0] - 1)):
                    rule = (first, then)
                    both = plain.number(plain.things(first) | plain.things(then))
                    with self.subTest(book=book, rule=rule):
                        self.assertEqual(rule_count(book, rule), plain.count(book, both))
                        self.assertEqual(share(book, rule), plainrules.share(book, rule))
                        self.assertIs(holds(book, rule), plainrules.holds(book, rule))

    def test_twelve_things(self):
        for book in plain.some_books(6, 12, 60, 31):
            for first in (0, 1, 3, 2 ** book[0] - 1):
                for then in (1, 2 ** (book[0] - 1), 2 ** book[0] - 1):
                    self.assertEqual(share(book, (first, then)), plainrules.share(book, (first, then)))
                    self.assertIs(holds(book, (first, then)), plainrules.holds(book, (first, then)))


class BroughtOn(unittest.TestCase):
    def test_in_rings(self):
        self.assertEqual(brought_on(RULES, 1), (31, [1, 2, 4, 0]))
        self.assertEqual(brought_on(RULES, 2), (31, [2, 4, 0]))

    def test_the_first_in_the_list_is_looked_for_anew_at_each_step(self):
        self.assertEqual(brought_on([(2, 4), (1, 2), (1, 8)], 1), (15, [1, 0, 2]))
        self.assertEqual(brought_on([(1, 8), (2, 4), (1, 2)], 1), (15, [0, 2, 1]))

    def test_first_must_lie_in_the_lot_whole(self):
        self.assertEqual(brought_on([(3, 4)], 1), (1, []))
        self.assertEqual(brought_on([(3, 4)], 3), (7, [0]))

    def test_a_then_that_lies_in_part_in_the_lot_is_put_to_it(self):
        self.assertEqual(brought_on([(1, 6)], 3), (7, [0]))
        self.assertEqual(brought_on([(1, 3)], 3), (3, []))

    def test_no_rules_and_empty_lots(self):
        self.assertEqual(brought_on([], 0), (0, []))
        self.assertEqual(brought_on([], 9), (9, []))
        self.assertEqual(brought_on([(0, 0)], 0), (0, []))
        self.assertEqual(brought_on([(0, 4)], 0), (4, [0]))

    def test_rules_that_are_alike(self):
        self.assertEqual(brought_on([(1, 2), (1, 2), (1, 2)], 1), (3, [0]))

    def test_lots_of_forty_figures(self):
        self.assertEqual(brought_on([(FORTY, 1), (0, FORTY)], 0), (FORTY, [1]))
        self.assertEqual(brought_on([(2 ** 100, 2 ** 110)], 2 ** 100 + 1), (2 ** 110 + 2 ** 100 + 1, [0]))

    def test_by_chance(self):
        chance = random.Random(32)
        for turn in range(300):
            rules = some_rules(chance, 5, 9)
            lot = chance.randrange(32)
            with self.subTest(rules=rules, lot=lot):
                self.assertEqual(brought_on(rules, lot), plainrules.brought_on(rules, lot))


class Follows(unittest.TestCase):
    def test_by_steps(self):
        self.assertEqual(follows(RULES, (1, 2)), ("by", [1]))
        self.assertEqual(follows(RULES, (1, 4)), ("by", [1, 2]))
        self.assertEqual(follows(RULES, (1, 16)), ("by", [1, 2, 4, 0]))
        self.assertEqual(follows(RULES, (2, 9)), ("by", [2, 4]))

    def test_by_no_steps(self):
        self.assertEqual(follows(RULES, (3, 1)), ("by", []))
        self.assertEqual(follows(RULES, (0, 0)), ("by", []))
        self.assertEqual(follows([], (3, 3)), ("by", []))
        self.assertEqual(follows([(0, 4)], (0, 0)), ("by", []))

    def test_steps_that_do_not_help_are_told_as_they_are_taken(self):
        self.assertEqual(follows([(1, 8), (1, 2)], (1, 2)), ("by", [0, 1]))

    def test_shut(self):
        self.assertEqual(follows(RULES, (16, 1)), ("shut", 16))
        self.assertEqual(follows(RULES, (8, 1)), ("shut", 24))
        self.assertEqual(follows(RULES, (8, 17)), ("shut", 24))
        self.assertEqual(follows([], (0, 1)), ("shut", 0))
        self.assertEqual(follows(RULES, (1, 32)), ("shut", 31))

    def test_by_chance(self):
        chance = random.Random(33)
        for turn in range(500):
            rules = some_rules(chance, 5, 9)
            rule = (chance.randrange(32), chance.randrange(32))
            told = follows(rules, rule)
            with self.subTest(rules=rules, rule=rule):
                self.assertEqual(told, plainrules.follows(rules, rule))
                self.assertIs(follow_holds(rules, rule, told), True)

    def test_all_that_always_holds_follows_from_the_few_rules_and_no_other(self):
        for book in plain.small_books(34):
            rules = plainrules.few_rules(book)
            for first in range(2 ** book[0]):
                for then in range(2 ** book[0]):
                    told = follows(rules, (first, then))
                    self.assertEqual(told[0], "by" if plainrules.holds(book, (first, then)) else "shut")
                    self.assertIs(follow_holds(rules, (first, then), told), True)


class Looker(unittest.TestCase):
    def assert_told(self, rules, rule, told, asked):
        with self.subTest(rules=rules, rule=rule, told=told):
            self.assertIs(follow_holds(rules, rule, told), asked)

    def test_right_tellings_that_are_not_the_told_one(self):
        for steps in ([1, 2], [3, 2], [1, 1, 2], [1, 2, 4, 0], [1, 2, 5], [1, 3, 2, 2]):
            self.assert_told(RULES, (1, 4), ("by", steps), True)
        for lot in (16, 24, 16 + 64, 16 + 2 ** 120):
            self.assert_told(RULES, (16, 1), ("shut", lot), True)
        self.assert_told(RULES, (3, 1), ("by", [1]), True)

    def test_another_word(self):
        for word in ("", "By", "BY", "by ", "shut ", "Shut", "steps", "true"):
            self.assert_told(RULES, (1, 2), (word, [1]), False)
            self.assert_told(RULES, (3, 1), (word, []), False)
            self.assert_told(RULES, (16, 1), (word, 16), False)

    def test_a_word_beside_what_belongs_to_the_other(self):
        self.assert_told(RULES, (1, 2), ("by", 1), False)
        self.assert_told(RULES, (3, 1), ("by", 0), False)
        self.assert_told(RULES, (1, 2), ("shut", [1]), False)
        self.assert_told(RULES, (16, 1), ("shut", [16]), False)
        self.assert_told(RULES, (16, 1), ("shut", []), False)
        self.assert_told(RULES, (16, 1), ("by", 16), False)

    def test_numbers_that_are_no_places_of_rules(self):
        rules = [(1, 2), (1, 4)]
        for place in (-1, -2, -3, 2, 3, FORTY, -FORTY):
            self.assert_told(rules, (1, 4), ("by", [place]), False)
            self.assert_told(rules, (1, 4), ("by", [1, place]), False)
            self.assert_told(rules, (1, 1), ("by", [place]), False)
            self.assert_told(rules, (1, 4), ("by", [place, 1]), False)
        self.assert_told(rules, (1, 4), ("by", [1]), True)
        self.assert_told([], (1, 1), ("by", [0]), False)
        self.assert_told([], (1, 1), ("by", []), True)

    def test_steps_whose_first_is_not_there_by_then(self):
        self.assert_told(RULES, (1, 4), ("by", [2, 1]), False)
        self.assert_told(RULES, (1, 16), ("by", [1, 2, 0]), False)
        self.assert_told(RULES, (1, 2), ("by", [1, 0]), False)
        self.assert_told(RULES, (3, 1), ("by", [0]), False)
        self.assert_told([(3, 4)], (1, 4), ("by", [0]), False)

    def test_steps_that_do_not_reach(self):
        self.assert_told(RULES, (1, 4), ("by", []), False)
        self.assert_told(RULES, (1, 4), ("by", [1]), False)
        self.assert_told(RULES, (1, 12), ("by", [1, 2]), False)
        self.assert_told([], (0, 1), ("by", []), False)

    def test_lots_that_do_not_show_it(self):
        # Without first; with then; that breaks a rule; below 0.
        for lot in (0, 8, 2 ** 120):
            self.assert_told(RULES, (16, 1), ("shut", lot), False)
        for lot in (17, 31, 31 + 2 ** 120):
            self.assert_told(RULES, (16, 1), ("shut", lot), False)
        for lot in (16 + 4, 16 + 2, 16 + 4 + 8 + 2):
            self.assert_told(RULES, (16, 1), ("shut", lot), False)
        for lot in (-1, -16, -2, -15, -FORTY):
            self.assert_told([], (16, 1), ("shut", lot), False)
            self.assert_told([], (0, 1), ("shut", lot), False)

    def test_a_rule_that_follows_is_never_shown_shut(self):
        for lot in range(64):
            self.assert_told(RULES, (1, 16), ("shut", lot), False)

    def test_part_of_then_may_be_there(self):
        self.assert_told([], (1, 6), ("shut", 3), True)
        self.assert_told([], (1, 6), ("shut", 7), False)

    def test_by_chance(self):
        chance = random.Random(35)
        held = 0
        for turn in range(4000):
            rules = some_rules(chance, 4, 5)
            rule = (chance.randrange(16), chance.randrange(16))
            if chance.random() < 0.5:
                told = ("by", [chance.randint(-1, len(rules)) for step in range(chance.randint(0, 4))])
            else:
                told = ("shut", chance.randint(-3, 20))
            asked = plainrules.follow_holds(rules, rule, told)
            held += asked
            self.assert_told(rules, rule, told, asked)
        self.assertGreater(held, 400)


if __name__ == "__main__":
    unittest.main()
