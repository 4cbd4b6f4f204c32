"""Point [22]."""

import itertools
import random
import unittest

from oftenlots.errors import NoText, OftenError
from oftenlots.texts import read_day, read_lot, read_rule, show_day, show_lot, show_rule

NAMES = ["tea", "milk", "bun"]
TWELVE = ["a", "b", "no", "nonee", "on", "one", "ab", "ba", "abcdefgh", "zzzzzzzz", "n", "e"]
ONE = ["x"]
SIGNS = [chr(code) for code in range(ord(" "), ord("~") + 1)]


def names_by_chance(chance):
    names = []
    length = chance.randint(1, 12)
    while len(names) < length:
        name = "".join(chance.choice("abno") for letter in range(chance.randint(1, 8)))
        if name not in names and name != "none":
            names.append(name)
    return names


class Showing(unittest.TestCase):
    def test_lots(self):
        self.assertEqual([show_lot(NAMES, lot) for lot in range(8)],
                         ["-", "tea", "milk", "tea milk", "bun", "tea bun", "milk bun", "tea milk bun"])

    def test_one_name_and_twelve(self):
        self.assertEqual([show_lot(ONE, lot) for lot in (0, 1)], ["-", "x"])
        self.assertEqual(show_lot(TWELVE, 4095), " ".join(TWELVE))
        self.assertEqual(show_lot(TWELVE, 2048 + 1), "a e")
        self.assertEqual(show_lot(TWELVE, 0), "-")

    def test_the_lists_order_and_no_other(self):
        self.assertEqual(show_lot(["z", "m", "a"], 7), "z m a")
        self.assertEqual(show_lot(["z", "m", "a"], 5), "z a")

    def test_rules(self):
        self.assertEqual(show_rule(NAMES, (3, 4)), "tea milk => bun")
        self.assertEqual(show_rule(NAMES, (4, 3)), "bun => tea milk")
        self.assertEqual(show_rule(NAMES, (0, 7)), "- => tea milk bun")
        self.assertEqual(show_rule(NAMES, (1, 0)), "tea => -")
        self.assertEqual(show_rule(NAMES, (0, 0)), "- => -")

    def test_days(self):
        self.assertEqual(show_day(NAMES, [3, 0, 4]), "tea milk; -; bun")
        self.assertEqual(show_day(NAMES, [4, 4]), "bun; bun")
        self.assertEqual(show_day(NAMES, [0]), "-")
        self.assertEqual(show_day(NAMES, [7]), "tea milk bun")
        self.assertEqual(show_day(NAMES, []), "none")


class Reading(unittest.TestCase):
    def test_written_ones(self):
        self.assertEqual(read_lot(NAMES, "-"), 0)
        self.assertEqual(read_lot(NAMES, "tea bun"), 5)
        self.assertEqual(read_rule(NAMES, "tea milk => bun"), (3, 4))
        self.assertEqual(read_rule(NAMES, "- => -"), (0, 0))
        self.assertEqual(read_day(NAMES, "none"), [])
        self.assertEqual(read_day(NAMES, "-"), [0])
        self.assertEqual(read_day(NAMES, "bun; -; tea milk; bun"), [4, 0, 3, 4])

    def test_kinds(self):
        self.assertIs(type(read_lot(NAMES, "tea")), int)
        self.assertIs(type(read_rule(NAMES, "tea => bun")), tuple)
        self.assertEqual([type(side) for side in read_rule(NAMES, "tea => -")], [int, int])
        self.assertIs(type(read_day(NAMES, "tea; bun")), list)
        self.assertIs(type(read_day(NAMES, "none")), list)
        self.assertIs(type(show_day(NAMES, [1])), str)

    def test_what_is_shown_is_read_back(self):
        for names in (ONE, NAMES, TWELVE):
            lots = range(2 ** len(names))
            self.assertEqual([read_lot(names, show_lot(names, lot)) for lot in lots], list(lots))

    def test_rules_and_days_are_read_back(self):
        chance = random.Random(60)
        for turn in range(300):
            names = names_by_chance(chance)
            rule = (chance.randrange(2 ** len(names)), chance.randrange(2 ** len(names)))
            day = [chance.choice([0, chance.randrange(2 ** len(names))]) for place in range(chance.randint(0, 40))]
            self.assertEqual(read_rule(names, show_rule(names, rule)), rule)
            self.assertEqual(read_day(names, show_day(names, day)), day)

    def test_names_that_begin_or_end_like_others(self):
        names = ["ab", "a", "b", "abc"]
        self.assertEqual(read_lot(names, "a b"), 6)
        self.assertEqual(read_lot(names, "ab"), 1)
        self.assertEqual(read_lot(names, "ab a b abc"), 15)


class Refusals(unittest.TestCase):
    def assert_refused(self, read, names, text):
        with self.subTest(read=read.__name__, text=text):
            with self.assertRaises(NoText):
                read(names, text)

    # No text of a lot, and so of neither a rule's side nor a basket.
    NO_LOTS = ["", " ", "  ", " tea", "tea ", "tea  milk", " -", "- ", "--", "- -", "- tea", "tea -", "none",
               "tea none", "te", "teaa", "Tea", "TEA", "tea tea", "milk tea", "bun tea", "tea bun milk",
               "tea milk milk", "tea,milk", "tea;milk", "0", "1", "tea 1", "_", "cocoa", "tea cocoa",
               "teamilk", "tea=>bun"]

    def test_lots(self):
        for text in self.NO_LOTS + ["tea => bun", "tea; bun", "tea;", "; tea", "- => -"]:
            self.assert_refused(read_lot, NAMES, text)

    def test_sides_of_rules(self):
        for text in self.NO_LOTS:
            self.assert_refused(read_rule, NAMES, text + " => bun")
            self.assert_refused(read_rule, NAMES, "tea => " + text)

    def test_rules(self):
        for text in ("", "tea", "-", "=>", " => ", "tea =>", "tea => ", "=> tea", " => tea", "tea=>bun", "tea= >bun",
                     "tea  => bun", "tea =>  bun", "tea => bun ", " tea => bun", "tea => milk => bun", "tea -> bun",
                     "tea = > bun", "tea >= bun", "tea => => bun", "none", "none => tea", "tea; bun => milk",
                     "tea => bun; milk", " => ", "=> => =>", "tea ==> bun", "tea => bun => ", " => tea => bun"):
            self.assert_refused(read_rule, NAMES, text)

    def test_days(self):
        for text in self.NO_LOTS:
            if text != "none":
                self.assert_refused(read_day, NAMES, text)
            self.assert_refused(read_day, NAMES, "tea; " + text)
            self.assert_refused(read_day, NAMES, text + "; bun")
            self.assert_refused(read_day, NAMES, "tea; " + text + "; bun")
        for text in (";", "; ", "tea;bun", "tea ; bun", "tea;  bun", "tea; bun;", "tea; bun; ", "; tea", "tea;; bun",
                     "tea; ; bun", "none; tea", "tea; none", "none; none", "none ", " none", "None", "none;", "none; ",
                     "tea, bun", "tea => bun", "-;-", "nonenone"):
            self.assert_refused(read_day, NAMES, text)

    def test_one_name_and_twelve(self):
        for text in ("x x", "y", "X", "", "xx", " x", "x ", "none", "x -"):
            self.assert_refused(read_lot, ONE, text)
        for text in (" ".join(TWELVE) + " a", " ".join(reversed(TWELVE)), " ".join(TWELVE[1:] + TWELVE[:1]),
                     "  ".join(TWELVE), "".join(TWELVE), " ".join(TWELVE) + " ", "none", "no ne", "nonee no"):
            self.assert_refused(read_lot, TWELVE, text)

    def test_every_other_sign(self):
        for sign in SIGNS:
            if sign != "-":
                self.assert_refused(read_lot, NAMES, sign)
                self.assert_refused(read_day, NAMES, sign)
            for text in (sign + "tea", "tea" + sign, "tea" + sign + sign + "bun"):
                self.assert_refused(read_lot, NAMES, text)
                self.assert_refused(read_day, NAMES, text)
            self.assert_refused(read_rule, NAMES, sign)
            self.assert_refused(read_rule, NAMES, sign + " => " + sign if sign != "-" else "=>")
            self.assert_refused(read_rule, NAMES, "tea " + sign + "> bun" if sign != "=" else "tea=> bun")
            self.assert_refused(read_rule, NAMES, "tea =" + sign + " bun" if sign != ">" else "tea =>bun")
            self.assert_refused(read_rule, NAMES, "tea => bun" + sign)
            self.assert_refused(read_rule, NAMES, sign + "tea => bun")

    def test_long_texts(self):
        for text in ("tea " * 175, "a" * 700, " " * 700, "-" * 700, "; " * 350, " => " * 175, "tea; " * 140,
                     "tea => " * 100, "none; " * 116, "~" * 700, "tea milk bun; " * 50):
            for read in (read_lot, read_rule, read_day):
                self.assert_refused(read, NAMES, text)
        self.assertEqual(read_day(NAMES, "tea; " * 139 + "bun"), [1] * 139 + [4])

    def test_refusals_are_often_errors(self):
        for read in (read_lot, read_rule, read_day):
            with self.assertRaises(OftenError):
                read(NAMES, "")

    def test_just_the_shown_texts_are_read(self):
        # All texts of at most five of these pieces.
        pieces = ["a", "b", "-", " ", "; ", " => ", "none"]
        names = ["a", "b"]
        lots = {show_lot(names, lot): lot for lot in range(4)}
        rules = {show_rule(names, (one, other)): (one, other) for one in range(4) for other in range(4)}
        for length in range(6):
            for chosen in itertools.product(pieces, repeat=length):
                text = "".join(chosen)
                self.assertEqual(self.told(read_lot, names, text), lots.get(text))
                self.assertEqual(self.told(read_rule, names, text), rules.get(text))
                baskets = [lots.get(part) for part in text.split("; ")]
                day = [] if text == "none" else None if None in baskets else baskets
                self.assertEqual(self.told(read_day, names, text), day)

    def told(self, read, names, text):
        try:
            return read(names, text)
        except NoText:
            return None


class HandedIn(unittest.TestCase):
    def test_names_that_are_changed_behind(self):
        names = ["tea", "milk", "bun"]
        told = read_day(names, "tea; bun")
        names.reverse()
        self.assertEqual(told, [1, 4])
        self.assertEqual(show_lot(names, 1), "bun")
        self.assertEqual(read_lot(names, "bun"), 1)
        self.assertEqual(read_lot(NAMES, "bun"), 4)
        names[0] = "cake"
        self.assertEqual(read_lot(names, "cake milk"), 3)
        with self.assertRaises(NoText):
            read_lot(names, "bun")


if __name__ == "__main__":
    unittest.main()
