"""Point [3], sentence by sentence, over the whole program on drawn small books."""

import random
import unittest

import plain
import plainapart
import plainlevels
import plainrules
from oftenlots.apart import least_parting, parting_holds, parting_paper
from oftenlots.books import count
from oftenlots.closed import closed_holds, closed_lots, closed_paper, going
from oftenlots.columns import by_columns
from oftenlots.fewrules import few_rules, served
from oftenlots.greatest import crossings, greatest, outside, part_all
from oftenlots.keeper import Keeper
from oftenlots.leastlots import all_least, by_closed, by_least, kin
from oftenlots.levels import border, often, whole_holds, whole_paper
from oftenlots.papertexts import read_closed, read_parting, read_whole, show_closed, show_parting, show_whole
from oftenlots.paths import grown
from oftenlots.rooms import count_again, filled, lesser_counts, open_lots, room, settled
from oftenlots.rows import row_holds, row_paper
from oftenlots.rules import follow_holds, follows, holds
from oftenlots.shop import Shop
from oftenlots.texts import show_day, show_lot

NAMES = ["tea", "milk", "bun", "jam", "rice"]


def lots_of(rows):
    return [row[0] for row in rows]


def drawn(seed):
    for book in plain.small_books(seed):
        for least in plain.leasts_for(book):
            yield book, least


class Promise(unittest.TestCase):
    def test_three_ways_tell_the_very_same(self):
        for book, least in drawn(200):
            with self.subTest(book=book, least=least):
                told = often(book, least)
                self.assertEqual(grown(book, least), told)
                self.assertEqual(by_columns(book, least), told)
                self.assertEqual(told, plainlevels.often(book, least))

    def test_least_rare_lots_and_marks_show_that_none_is_missing_and_none_too_many(self):
        for book, least in drawn(201):
            rows, rares = whole_paper(book, least)
            with self.subTest(book=book, least=least):
                self.assertEqual(lots_of(rows), lots_of(often(book, least)))
                self.assertEqual(lots_of(rares), lots_of(border(book, least)))
                self.assertIs(whole_holds(book, least, (rows, rares)), True)
                for place in range(len(rows)):
                    self.assertIs(whole_holds(book, least, (rows[:place] + rows[place + 1:], rares)), False)
                if rares:
                    self.assertIs(whole_holds(book, least, (sorted(rows + rares[:1]), rares[1:])), False)

    def test_closed_lots_each_met_once_with_a_paper(self):
        for book, least in drawn(202):
            closed = closed_lots(book, least)
            paper = closed_paper(book, least)
            with self.subTest(book=book, least=least):
                self.assertEqual(sorted(row[0] for row in going(book, least)), lots_of(closed))
                self.assertEqual([row[:2] for row in paper], closed)
                for lot, its, reasons in paper:
                    # Of each and each thing more where it leads or why it is rare.
                    self.assertEqual([row[0] for row in reasons], sorted(set(range(book[0])) - plain.things(lot)))
                    for thing, word, what in reasons:
                        if word == "leads":
                            self.assertIn(what, lots_of(closed))
                        else:
                            self.assertLess(len(what), least)

    def test_counts_come_back_and_kins_come_to_all_often_lots(self):
        for book, least in drawn(203):
            closed, leasts, rares = closed_lots(book, least), all_least(book, least), lots_of(border(book, least))
            told = dict(often(book, least))
            with self.subTest(book=book, least=least):
                for lot in range(2 ** book[0]):
                    self.assertEqual(by_closed(closed, lot), told.get(lot))
                    self.assertEqual(by_least(leasts, rares, lot), told.get(lot))
                self.assertEqual(sum(kin(book, row[0]) for row in closed), len(told))

    def test_greatest_and_least_rare_ones_are_led_into_one_another(self):
        for book, least in drawn(204):
            many, great, small = book[0], lots_of(greatest(book, least)), lots_of(border(book, least))
            with self.subTest(book=book, least=least):
                self.assertEqual(crossings(many, [outside(many, lot) for lot in great]), small)
                self.assertEqual(sorted(outside(many, lot) for lot in crossings(many, small)), great)
                self.assertIs(part_all(many, great, small), True)

    def test_what_always_holds_follows_and_of_each_other_rule_a_lot_shows_that_it_does_not(self):
        for book in plain.small_books(205):
            if book[0] > 4:
                continue
            rules = few_rules(book)
            for first in range(2 ** book[0]):
                for then in range(2 ** book[0]):
                    told = follows(rules, (first, then))
                    self.assertEqual(told[0], "by" if plainrules.holds(book, (first, then)) else "shut")
                    self.assertEqual(holds(book, (first, then)), told[0] == "by")
                    self.assertIs(follow_holds(rules, (first, then), told), True)

    def test_no_such_rules_are_fewer(self):
        chance = random.Random(206)
        looked = 0
        for book in plain.small_books(207):
            few = few_rules(book)
            whole = 2 ** book[0]
            # Rules that always hold, drawn till all follow from them: then those left out again that need not be there.
            rules = []
            while not all(follows(rules, rule)[0] == "by" for rule in few):
                first = chance.randrange(whole)
                rules.append((first, chance.randrange(whole) & plain.closing(book, first)))
            for rule in list(rules):
                rest = list(rules)
                rest.remove(rule)
                if all(follows(rest, other)[0] == "by" for other in few):
                    rules = rest
            places = served(book, rules)
            with self.subTest(book=book, rules=rules):
                self.assertGreaterEqual(len(rules), len(few))
                self.assertEqual(len(set(places)), len(few))
                self.assertNotIn(None, places)
            looked += len(few) > 0
            for rule in few:
                rest = [other for other in few if other != rule]
                self.assertEqual(follows(rest, rule)[0], "shut")
        self.assertGreater(looked, 20)

    def test_rooms_and_a_book_for_every_number_between(self):
        for book in plain.small_books(208):
            for lot in range(1, 2 ** book[0]):
                counts = lesser_counts(book, lot)
                low, high = room(lot, counts)
                self.assertTrue(low <= count(book, lot) <= high)
                for number in range(low, high + 1):
                    baskets = filled(lot, counts, number)
                    self.assertEqual(plainapart.lesser_counts(baskets, lot), counts)
                    self.assertEqual(baskets.count(lot), number)
                self.assertEqual(settled(book, lot), low == high)

    def test_settled_lots_can_be_left_out_and_come_back(self):
        for book, least in drawn(209):
            opened = open_lots(book, least)
            told = dict(often(book, least))
            with self.subTest(book=book, least=least):
                self.assertEqual(opened, [row for row in sorted(told.items()) if not settled(book, row[0])])
                for lot in range(2 ** book[0]):
                    self.assertEqual(count_again(opened, least, lot), told.get(lot))

    def test_the_least_lots_that_part_are_told_each_with_baskets_that_show_it(self):
        chance = random.Random(210)
        for one in plain.small_books(211):
            other = (one[0], [chance.randrange(2 ** one[0]) for place in range(chance.randint(0, 6))])
            rows, leads = parting_paper(one, other)
            with self.subTest(one=one, other=other):
                self.assertEqual(least_parting(one, other), plainapart.least_parting(one, other))
                self.assertEqual(lots_of(rows), lots_of(least_parting(one, other)))
                for lot, place, marks, backs in rows:
                    self.assertTrue(plain.things(lot) <= plain.things(one[1][place]))
                    for back, thing in zip(backs, sorted(plain.things(lot)), strict=True):
                        self.assertTrue(plain.things(lot) - {thing} <= plain.things(other[1][back]))
                self.assertIs(parting_holds(one, other, (rows, leads)), True)

    def test_a_keeper_tells_at_each_moment_what_the_book_of_its_days_tells(self):
        chance = random.Random(212)
        for turn in range(20):
            many = chance.randint(1, 4)
            least, most = chance.randint(1, 3), chance.randint(1, 4)
            keeper, days = Keeper(many, least, most), []
            for step in range(12):
                ahead = dict(keeper.closed())
                choice = chance.randrange(4)
                if choice == 0 and days:
                    keeper.go()
                    days = days[1:]
                elif choice == 1:
                    least = chance.randint(1, 3)
                    keeper.need(least)
                else:
                    day = [chance.randrange(2 ** many) for place in range(chance.randint(0, 4))]
                    keeper.come(day)
                    days = (days + [day])[-most:]
                book = (many, [basket for day in days for basket in day])
                now = dict(closed_lots(book, least))
                self.assertEqual(keeper.days(), days)
                self.assertEqual(keeper.closed(), sorted(now.items()))
                for lot in range(2 ** many):
                    self.assertEqual(keeper.count(lot), count(book, lot))
                # What it tells as changed is just what differs.
                came, went, moved = keeper.changes()
                self.assertEqual(came, sorted(row for row in now.items() if row[0] not in ahead))
                self.assertEqual(went, sorted(row for row in ahead.items() if row[0] not in now))
                self.assertEqual(moved, sorted((lot, ahead[lot], now[lot]) for lot in now
                                               if lot in ahead and ahead[lot] != now[lot]))


class Lookers(unittest.TestCase):
    def test_each_told_paper_is_let_by_also_by_way_of_its_text(self):
        chance = random.Random(213)
        for book, least in drawn(214):
            other = (book[0], [chance.randrange(2 ** book[0]) for place in range(chance.randint(0, 5))])
            whole, closed, parting = whole_paper(book, least), closed_paper(book, least), parting_paper(book, other)
            with self.subTest(book=book, least=least, other=other):
                for paper in (whole, read_whole(show_whole(whole))):
                    self.assertIs(whole_holds(book, least, paper), True)
                for paper in (closed, read_closed(show_closed(closed))):
                    self.assertIs(closed_holds(book, least, paper), True)
                for paper in (parting, read_parting(show_parting(parting))):
                    self.assertIs(parting_holds(book, other, paper), True)
                history = (book[0], [book[1][:3], book[1][3:6], other[1]])
                row = [lot for lot in book[1] if lot][:3]
                self.assertIs(row_holds(history, row, row_paper(history, row)), True)

    def test_papers_of_other_books_are_let_by_only_where_they_are_right(self):
        books = [book for book in plain.small_books(215) if book[0] <= 3]
        for one in books:
            for other in books:
                if one[0] != other[0]:
                    continue
                for least in (1, 2):
                    paper = closed_paper(other, least)
                    self.assertIs(closed_holds(one, least, paper), plain.closed_paper(one, least) == paper)
                    paper = whole_paper(other, least)
                    self.assertIs(whole_holds(one, least, paper), plainlevels.whole_holds(one, least, paper))
                paper = parting_paper(other, one)
                self.assertIs(parting_holds(one, other, paper), plainapart.parting_holds(one, other, paper))
                rules = few_rules(one)
                for rule in few_rules(other):
                    told = follows(few_rules(other), rule)
                    shown = follow_holds(rules, rule, told)
                    # Let by as "by": then it follows, and always holds.
                    self.assertTrue(not shown or holds(one, rule))


class OverTheWholeProgram(unittest.TestCase):
    def test_a_shop_tells_what_the_stages_tell(self):
        for book in plain.small_books(216):
            names = NAMES[:book[0]]
            shop = Shop()
            shop.say("things " + " ".join(names))
            shop.say("day " + show_day(names, book[1]))
            for least in (1, 2):
                shop.say(f"need {least}")
                for line, rows in (("closed", closed_lots(book, least)), ("often", often(book, least)),
                                   ("border", border(book, least)), ("greatest", greatest(book, least))):
                    asked = "; ".join(f"{show_lot(names, lot)}: {its}" for lot, its in rows) or "none"
                    self.assertEqual(shop.say(line), asked)


if __name__ == "__main__":
    unittest.main()
