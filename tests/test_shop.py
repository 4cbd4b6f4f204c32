"""Point [23]."""

import random
import unittest

import plain
import plainshop
from oftenlots.errors import NoDay, NoLeast, NoLine, NoThings, OftenError
from oftenlots.shop import Shop

FORTY = plain.FORTY
SIGNS = [chr(code) for code in range(ord(" "), ord("~") + 1)]
TWELVE = ["a", "b", "c", "d", "e", "f", "g", "h", "i", "j", "k", "abcdefgh"]

# One line of each kind, right in a shop of tea, milk and bun with a day.
LINES = ["things tea milk", "day tea; milk bun", "go", "need 2", "count tea", "closed", "changes", "does tea => milk",
         "share tea => milk", "rules", "often", "border", "greatest", "room tea milk", "top 2"]
ALONE = ["go", "closed", "changes", "rules", "often", "border", "greatest"]
WITH_MORE = ["things", "day", "need", "count", "does", "share", "room", "top"]
ASKED = ["count -", "closed", "changes", "does - => tea", "share tea => milk", "rules", "often", "border", "greatest",
         "room tea", "top 3"]

# Refused ahead of all else, whether there are things or not.
NO_LINES = ["", " ", "  ", "thing a", "Things a", "THINGS a", "thingsa", " things a", "come", "days", "hello", "none",
            "-", "closed lots", "go go", "go 1", "go ", "closed ", "changes ", "rules ", "often ", "border ",
            "greatest ", "closed  ", "often 2", "border x", "greatest tea", "rules none", "changes -", "go  ", " go",
            " closed", "things", "things ", "day", "day ", "need", "need ", "count", "count ", "does", "does ", "share",
            "share ", "room", "room ", "top", "top ", "GO", "Go", "go.", "go;", "closed;", "top2", "need2",
            "things  ", "things  a", "things a ", "things a  b", "things a a", "things a b a", "things none",
            "things a none", "things abcdefghi", "things a abcdefghi", "things A", "things tEa", "things a1",
            "things 1", "things -", "things a,b", "things a; b", "things a => b", "things a_b",
            "things " + " ".join(TWELVE) + " l", "things " + " ".join(TWELVE * 2), "things a\"",
            "need x", "need 1 ", "need  1", "need 01", "need 00", "need -0", "need +1", "need --1", "need 1.0",
            "need 1 2", "need -", "need - 1", "need one", "need 1_0", "need 1e2", "need 0x1",
            "need " + "1" * 41, "need -" + "1" * 41, "need 0" + "1" * 39, "need none", "need tea", "top x", "top 1 ",
            "top  1", "top 01", "top +1", "top 1.0", "top 1 2", "top 0", "top -1",
            "top -" + "9" * 40, "top " + "1" * 41, "top -0", "top none", "top tea"]

# Refused only behind NoThings: what the names decide.
NO_TEXTS = ["day cocoa", "day tea milk tea", "day milk tea", "day tea;milk", "day tea; ", "day  tea", "day tea ",
            "day  ", "day none; tea", "day tea; none", "day -; -;", "day , ", "day tea => milk", "day ; ", "day 1",
            "day " + "; ".join(["-"] * 41), "day " + "; ".join(["tea"] * 41), "day " + "; ".join(["-"] * 200),
            "count cocoa", "count tea tea", "count milk tea", "count  tea", "count tea ", "count  ", "count none",
            "count tea => milk", "count tea; milk", "count 1", "count - tea", "does tea", "does tea milk",
            "does tea => ", "does => tea", "does  => tea", "does tea => milk => bun", "does tea=>milk",
            "does tea => cocoa", "does cocoa => tea", "does  tea => milk", "does tea => milk ", "does none => tea",
            "does milk tea => bun", "does  ", "share tea", "share tea => ", "share tea => cocoa",
            "share milk tea => bun", "share  ", "share tea -> milk", "share tea => milk; bun", "room cocoa",
            "room milk tea", "room tea tea", "room  tea", "room tea ", "room -", "room none", "room tea => milk",
            "room tea; milk", "room  "]


def shop_with(*lines):
    shop = Shop()
    for line in lines:
        shop.say(line)
    return shop


def said(shop, line):
    try:
        return shop.say(line)
    except OftenError as error:
        return type(error)


def all_asked(shop):
    return [said(shop, line) for line in ASKED]


class Taken(unittest.TestCase):
    def setUp(self):
        self.shop = shop_with("things tea milk bun", "day tea milk; tea milk bun; -; tea; tea milk")

    def assert_said(self, line, asked):
        with self.subTest(line=line):
            told = self.shop.say(line)
            self.assertEqual(told, asked)
            self.assertIs(type(told), str)

    def test_deeds(self):
        self.assert_said("things tea", "ok")
        self.assert_said("day tea", "ok")
        self.assert_said("day none", "ok")
        self.assert_said("day -", "ok")
        self.assert_said("go", "ok")
        self.assert_said("need 2", "ok")
        self.assert_said("need " + "9" * 40, "ok")

    def test_count(self):
        self.assert_said("count -", "5")
        self.assert_said("count tea", "4")
        self.assert_said("count milk", "3")
        self.assert_said("count tea milk bun", "1")

    def test_closed(self):
        self.assert_said("closed", "-: 5; tea: 4; tea milk: 3; tea milk bun: 1")
        self.shop.say("need 3")
        self.assert_said("closed", "-: 5; tea: 4; tea milk: 3")
        self.shop.say("need 6")
        self.assert_said("closed", "none")

    def test_changes(self):
        self.assert_said("changes", "-: 5; tea: 4; tea milk: 3; tea milk bun: 1 / none / none")
        self.shop.say("need 3")
        self.assert_said("changes", "none / tea milk bun: 1 / none")
        self.shop.say("day tea; bun; bun; bun")
        self.assert_said("changes", "bun: 4 / none / -: 5 to 9; tea: 4 to 5")
        self.shop.say("go")
        self.assert_said("changes", "none / tea: 5; tea milk: 3 / -: 9 to 4; bun: 4 to 3")

    def test_does(self):
        self.assert_said("does milk => tea", "yes")
        self.assert_said("does tea => milk", "no")
        self.assert_said("does bun => tea milk", "yes")
        self.assert_said("does - => tea", "no")
        self.assert_said("does tea => -", "yes")
        self.assert_said("does - => -", "yes")

    def test_share(self):
        self.assert_said("share tea => milk", "3/4")
        self.assert_said("share milk => tea", "1/1")
        self.assert_said("share - => bun", "1/5")
        self.assert_said("share tea => -", "1/1")
        self.shop.say("go")
        self.assert_said("share tea => milk", "none")
        self.assert_said("share - => -", "none")
        self.shop.say("day tea")
        self.assert_said("share tea => milk", "0/1")

    def test_rules(self):
        self.assert_said("rules", "milk => tea; bun => tea milk")
        self.shop.say("go")
        self.assert_said("rules", "- => tea milk bun")
        self.shop.say("things a")
        self.shop.say("day a; -")
        self.assert_said("rules", "none")

    def test_often_border_and_greatest(self):
        self.shop.say("need 2")
        self.assert_said("often", "-: 5; tea: 4; milk: 3; tea milk: 3")
        self.assert_said("border", "bun: 1")
        self.assert_said("greatest", "tea milk: 3")
        self.shop.say("need 6")
        self.assert_said("often", "none")
        self.assert_said("border", "-: 5")
        self.assert_said("greatest", "none")
        self.shop.say("need 1")
        self.assert_said("border", "none")

    def test_room(self):
        self.assert_said("room tea", "0 to 5")
        self.assert_said("room tea milk", "2 to 3")
        self.assert_said("room tea bun", "0 to 1")
        self.assert_said("room tea milk bun", "1 to 1")
        self.shop.say("go")
        self.assert_said("room bun", "0 to 0")

    def test_top(self):
        self.assert_said("top 1", "-: 5")
        self.assert_said("top 2", "-: 5; tea: 4")
        self.assert_said("top 4", "-: 5; tea: 4; tea milk: 3; tea milk bun: 1")
        self.assert_said("top 5", "-: 5; tea: 4; tea milk: 3; tea milk bun: 1")
        self.assert_said("top " + "9" * 40, "-: 5; tea: 4; tea milk: 3; tea milk bun: 1")
        self.shop.say("things tea milk bun")
        self.assert_said("top 1", "none")
        self.shop.say("day bun; bun; milk; tea; tea; tea milk; tea milk")
        # By greater count, then by lesser lot.
        self.assert_said("top 9", "-: 7; tea: 4; milk: 3; tea milk: 2; bun: 2")
        self.assert_said("top 4", "-: 7; tea: 4; milk: 3; tea milk: 2")
        self.shop.say("need 3")
        self.assert_said("top 9", "-: 7; tea: 4; milk: 3")

    def test_without_baskets(self):
        self.shop.say("go")
        for line, asked in (("count -", "0"), ("closed", "none"), ("often", "none"), ("border", "-: 0"),
                            ("greatest", "none"), ("top 3", "none"), ("does tea => milk", "yes"),
                            ("share - => tea", "none"), ("room tea milk", "0 to 0")):
            self.assert_said(line, asked)

    def test_names_of_all_kinds(self):
        self.assert_said("things " + " ".join(TWELVE), "ok")
        self.assert_said("day abcdefgh; a abcdefgh", "ok")
        self.assert_said("count abcdefgh", "2")
        self.assert_said("things nonee non one", "ok")
        self.assert_said("day nonee; non one", "ok")
        self.assert_said("closed", "-: 2; nonee: 1; non one: 1")
        # Words of lines are names like others.
        self.assert_said("things go closed day ok", "ok")
        self.assert_said("day go closed; day", "ok")
        self.assert_said("count go", "1")

    def test_the_order_of_the_names(self):
        self.shop.say("things zz aa")
        self.shop.say("day zz aa; aa")
        self.assert_said("closed", "aa: 2; zz aa: 1")

    def test_numbers_of_forty_figures_and_below_nought(self):
        self.assert_said("need " + "1" * 40, "ok")
        self.assertIs(said(self.shop, "need -" + "1" * 40), NoLeast)
        self.assertIs(said(self.shop, "need 0"), NoLeast)
        self.assertIs(said(self.shop, "need -1"), NoLeast)


class Things(unittest.TestCase):
    def test_a_new_keeper(self):
        shop = shop_with("things tea milk", "day tea; milk", "need 2", "things bun")
        self.assertEqual(shop.say("closed"), "none")
        self.assertEqual(shop.say("changes"), "none / none / none")
        self.assertEqual(shop.say("border"), "-: 0")
        with self.assertRaises(NoDay):
            shop.say("go")
        with self.assertRaises(NoLine):
            shop.say("count tea")
        # Its least is 1 again.
        shop.say("day bun")
        self.assertEqual(shop.say("closed"), "bun: 1")

    def test_the_same_names_again(self):
        shop = shop_with("things tea", "day tea", "things tea")
        self.assertEqual(shop.say("count tea"), "0")

    def test_shops_are_each_for_themselves(self):
        one, other = shop_with("things tea", "day tea"), Shop()
        with self.assertRaises(NoThings):
            other.say("count tea")
        other.say("things milk")
        self.assertEqual([one.say("count tea"), other.say("count milk")], ["1", "0"])


class Days(unittest.TestCase):
    def test_ten_days_at_most(self):
        shop = shop_with("things tea milk")
        for day in range(10):
            shop.say("day tea" if day == 0 else "day milk")
        self.assertEqual([shop.say("count -"), shop.say("count tea")], ["10", "1"])
        shop.say("day milk")
        self.assertEqual([shop.say("count -"), shop.say("count tea")], ["10", "0"])
        self.assertEqual(shop.say("changes"), "none / -: 10; tea: 1 / milk: 9 to 10")
        for day in range(10):
            self.assertEqual(shop.say("go"), "ok")
        with self.assertRaises(NoDay):
            shop.say("go")

    def test_the_oldest_goes_first(self):
        shop = shop_with("things tea milk", "day tea", "day milk; milk", "go")
        self.assertEqual(shop.say("closed"), "milk: 2")
        self.assertEqual(shop.say("changes"), "none / -: 3; tea: 1 / none")

    def test_days_without_baskets_count_as_days(self):
        shop = shop_with("things tea", "day none", "day tea", "go")
        self.assertEqual(shop.say("count tea"), "1")
        shop.say("go")
        self.assertEqual(shop.say("count tea"), "0")

    def test_forty_baskets_and_one_more(self):
        shop = shop_with("things tea milk")
        self.assertEqual(shop.say("day " + "; ".join(["tea"] * 40)), "ok")
        for basket in ("tea", "-"):
            with self.assertRaises(NoLine):
                shop.say("day " + "; ".join([basket] * 41))
        self.assertEqual(shop.say("count tea"), "40")

    def test_twelve_things_and_a_hundred_and_twenty_baskets(self):
        shop = shop_with("things a b c d e f g h i j k l")
        names = "abcdefghijkl"
        day = "day " + "; ".join(" ".join(names.replace(names[place % 12], "")) for place in range(40))
        self.assertLessEqual(len(day), 1000)
        with plain.within_seconds(60):
            for turn in range(3):
                self.assertEqual(shop.say(day), "ok")
            self.assertEqual(shop.say("go"), "ok")
            self.assertEqual(shop.say("go"), "ok")
            # Four things are lacked by four baskets of forty, the others by three.
            self.assertEqual([shop.say("count a"), shop.say("count l"), shop.say("count -")], ["36", "37", "40"])
            self.assertEqual(shop.say("top 3"), "-: 40; e: 37; f: 37")
            self.assertEqual(shop.say("share a => b"), "8/9")
            self.assertEqual(shop.say("room a"), "0 to 40")
            self.assertEqual(shop.say("room a b c d e f g h i"), "9 to 9")
            self.assertIs(said(shop, "room a b c d e f g h i j"), NoLine)
            self.assertIs(said(shop, "room a b c d e f g h i j k l"), NoLine)


class Refused(unittest.TestCase):
    def test_no_line_whether_there_are_things_or_not(self):
        full = shop_with("things tea milk bun", "day tea; milk bun")
        for line in NO_LINES:
            with self.subTest(line=line):
                self.assertIs(said(Shop(), line), NoLine)
                self.assertIs(said(full, line), NoLine)

    def test_no_things(self):
        for line in LINES[1:] + ["need 0", "need -5", "go", "day none", "room -"]:
            with self.subTest(line=line):
                self.assertIs(said(Shop(), line), NoThings)

    def test_what_the_names_decide_behind_no_things(self):
        for line in NO_TEXTS:
            with self.subTest(line=line):
                self.assertIs(said(Shop(), line), NoThings)
                self.assertIs(said(shop_with("things tea milk bun"), line), NoLine)

    def test_a_refused_things_line_is_no_things_line(self):
        shop = Shop()
        for line in ("things a a", "things none", "things", "things A"):
            self.assertIs(said(shop, line), NoLine)
            self.assertIs(said(shop, "closed"), NoThings)
        shop.say("things a")
        self.assertEqual(shop.say("closed"), "none")

    def test_two_faults_in_one_line(self):
        # The form ahead of the things, the things ahead of the texts, the texts ahead of the stages.
        self.assertIs(said(Shop(), "top 0"), NoLine)
        self.assertIs(said(Shop(), "need 007"), NoLine)
        self.assertIs(said(Shop(), "go "), NoLine)
        self.assertIs(said(Shop(), "need 0"), NoThings)
        self.assertIs(said(Shop(), "day  "), NoThings)
        self.assertIs(said(Shop(), "room -"), NoThings)
        self.assertIs(said(Shop(), "day " + "; ".join(["-"] * 41)), NoThings)
        shop = shop_with("things tea milk")
        self.assertIs(said(shop, "go "), NoLine)
        self.assertIs(said(shop, "go"), NoDay)
        self.assertIs(said(shop, "need 0 "), NoLine)
        self.assertIs(said(shop, "need 0"), NoLeast)

    def test_errors_of_the_stages(self):
        shop = shop_with("things tea")
        for line, error in (("go", NoDay), ("need 0", NoLeast), ("need -3", NoLeast), ("need -" + "9" * 40, NoLeast)):
            with self.assertRaises(error):
                shop.say(line)

    def test_every_sign_behind_lines_that_stand_alone(self):
        shop = shop_with("things tea milk bun", "day tea; milk bun")
        for word in ALONE:
            for sign in SIGNS:
                self.assertIs(said(shop, word + sign), NoLine)
                self.assertIs(said(shop, sign + word), NoLine)
        for word in WITH_MORE:
            for sign in SIGNS:
                if sign not in "-0123456789abcdefghijklmnopqrstuvwxyz":
                    self.assertIs(said(shop, word + " " + sign), NoLine)

    def test_long_lines(self):
        shop = shop_with("things tea milk bun", "day tea; milk bun")
        with plain.within_seconds(10):
            for word in ALONE + WITH_MORE:
                for piece in ("a", "9", " ", "tea ", "; ", " => ", "~", "none "):
                    line = (word + " " + piece * 1000)[:1000]
                    self.assertIs(said(shop, line), NoLine)

    def test_a_refused_line_changes_nothing(self):
        for lines in ([], ["things tea milk bun"], ["things tea milk bun", "day tea milk; bun; tea", "need 2"],
                      ["things tea milk bun", "day tea", "day milk; tea milk", "go"]):
            shop = shop_with(*lines)
            before = all_asked(shop)
            for line in NO_LINES + NO_TEXTS + ["need 0", "need -1"]:
                self.assertIn(said(shop, line), (NoLine, NoThings, NoLeast))
                self.assertEqual(all_asked(shop), before)
        shop = shop_with("things tea milk bun", "day tea", "go")
        before = all_asked(shop)
        self.assertIs(said(shop, "go"), NoDay)
        self.assertEqual(all_asked(shop), before)
        self.assertEqual(shop.say("changes"), "none / tea: 1 / none")

    def test_questions_change_nothing(self):
        shop = shop_with("things tea milk bun", "day tea milk; bun; tea", "need 2", "day tea; bun")
        before = all_asked(shop)
        for line in ASKED + ["top 1", "count tea milk bun", "room tea milk bun"]:
            shop.say(line)
            self.assertEqual(all_asked(shop), before)


class ByChance(unittest.TestCase):
    def test_lines_by_chance(self):
        chance = random.Random(170)
        met = {}
        for turn in range(60):
            shop, asked = Shop(), plainshop.PlainShop()
            names = chance.sample(["a", "bb", "tea", "milk", "x"], chance.randint(1, 4))
            for step in range(40):
                line = self.line(chance, names, step)
                told = said(shop, line)
                with self.subTest(turn=turn, line=line):
                    self.assertEqual(told, said(asked, line))
                key = told if isinstance(told, type) else line.split(" ")[0]
                met[key] = met.get(key, 0) + 1
        for key in ALONE + WITH_MORE + [NoLine, NoThings, NoDay, NoLeast]:
            self.assertGreater(met.get(key, 0), 10, key)

    def line(self, chance, names, step):
        def lot():
            if chance.random() < 0.04:
                return chance.choice(["none", "b", "tea  x", "", "a a", "x a"])
            return " ".join(name for name in names if chance.random() < 0.5) or "-"

        if step == 3 or chance.random() < 0.02:
            return "things " + " ".join(names)
        if chance.random() < 0.05:
            return chance.choice(NO_LINES)
        if step % 3 == 0:
            baskets = [lot() for place in range(chance.randint(0, 6))]
            return "day " + ("; ".join(baskets) or "none")
        word = chance.choice(ALONE + WITH_MORE[2:] + ["need"])
        if word == "need":
            return f"need {chance.choice([-1, 0, 1, 1, 1, 2, 2, 3])}"
        if word == "top":
            return f"top {chance.choice([0, 1, 2, 3, 50])}"
        rest = {"count": lot(), "room": lot(), "does": lot() + " => " + lot(), "share": lot() + " => " + lot()}
        return word + " " + rest[word] if word in rest else word


if __name__ == "__main__":
    unittest.main()
