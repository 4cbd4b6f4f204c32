"""Points [20] and [21], and point [2] where a keeper is asked."""

import copy
import random
import unittest

import plain
import plainrules
from oftenlots.errors import NoDay, NoLeast, OftenError
from oftenlots.keeper import Keeper

FORTY = plain.FORTY
NOTHING = ([], [], [])


def kept(keeper):
    """All that a keeper can be asked for, as it stands."""
    return (keeper.days(), keeper.closed(), keeper.changes(), keeper.count(0), keeper.count(1))


class Days(unittest.TestCase):
    def test_none_at_first(self):
        keeper = Keeper(3, 1, 2)
        self.assertEqual(keeper.days(), [])
        self.assertEqual(keeper.closed(), [])
        self.assertEqual(keeper.count(0), 0)
        self.assertEqual(keeper.count(7), 0)
        self.assertEqual(keeper.changes(), NOTHING)

    def test_the_oldest_first(self):
        keeper = Keeper(3, 1, 3)
        keeper.come([3, 7])
        keeper.come([])
        keeper.come([0, 0])
        self.assertEqual(keeper.days(), [[3, 7], [], [0, 0]])

    def test_more_days_than_the_most(self):
        keeper = Keeper(3, 1, 2)
        keeper.come([1])
        keeper.come([2])
        self.assertEqual(keeper.days(), [[1], [2]])
        keeper.come([4])
        self.assertEqual(keeper.days(), [[2], [4]])
        keeper.come([])
        self.assertEqual(keeper.days(), [[4], []])
        keeper.come([5])
        self.assertEqual(keeper.days(), [[], [5]])

    def test_a_most_of_one_and_of_ten(self):
        keeper = Keeper(3, 1, 1)
        keeper.come([1])
        keeper.come([2, 2])
        self.assertEqual(keeper.days(), [[2, 2]])
        keeper = Keeper(4, 1, 10)
        for day in range(12):
            keeper.come([day])
            self.assertEqual(len(keeper.days()), min(day + 1, 10))
        self.assertEqual(keeper.days(), [[day] for day in range(2, 12)])

    def test_go(self):
        keeper = Keeper(3, 1, 3)
        keeper.come([1])
        keeper.come([2])
        keeper.go()
        self.assertEqual(keeper.days(), [[2]])
        keeper.go()
        self.assertEqual(keeper.days(), [])
        keeper.come([4])
        self.assertEqual(keeper.days(), [[4]])

    def test_deeds_tell_none(self):
        keeper = Keeper(3, 1, 1)
        self.assertIsNone(keeper.come([1]))
        self.assertIsNone(keeper.come([]))
        self.assertIsNone(keeper.need(2))
        self.assertIsNone(keeper.go())


class Told(unittest.TestCase):
    def test_closed_of_all_days(self):
        keeper = Keeper(3, 2, 3)
        keeper.come([3, 7, 0])
        self.assertEqual(keeper.closed(), [(0, 3), (3, 2)])
        keeper.come([1, 3])
        self.assertEqual(keeper.closed(), [(0, 5), (1, 4), (3, 3)])
        keeper.go()
        self.assertEqual(keeper.closed(), [(1, 2)])
        keeper.need(1)
        self.assertEqual(keeper.closed(), [(1, 2), (3, 1)])
        keeper.need(3)
        self.assertEqual(keeper.closed(), [])

    def test_count(self):
        keeper = Keeper(3, 2, 2)
        keeper.come([3, 7, 0])
        keeper.come([1, 3])
        self.assertEqual([keeper.count(lot) for lot in range(8)], [5, 4, 3, 3, 1, 1, 1, 1])
        keeper.come([])
        self.assertEqual([keeper.count(lot) for lot in range(8)], [2, 2, 1, 1, 0, 0, 0, 0])

    def test_a_day_without_baskets(self):
        keeper = Keeper(3, 1, 2)
        keeper.come([])
        self.assertEqual(keeper.days(), [[]])
        self.assertEqual(keeper.closed(), [])
        self.assertEqual(keeper.count(0), 0)
        self.assertEqual(keeper.changes(), NOTHING)
        keeper.go()
        self.assertEqual(keeper.days(), [])

    def test_a_least_of_forty_figures(self):
        keeper = Keeper(3, FORTY, 2)
        keeper.come([7, 7])
        self.assertEqual(keeper.closed(), [])
        self.assertEqual(keeper.changes(), NOTHING)
        keeper.need(1)
        self.assertEqual(keeper.changes(), ([(7, 2)], [], []))
        keeper.need(FORTY)
        self.assertEqual(keeper.closed(), [])
        self.assertEqual(keeper.changes(), ([], [(7, 2)], []))

    def test_keepers_do_not_know_of_one_another(self):
        one, other = Keeper(3, 1, 2), Keeper(2, 2, 1)
        one.come([7])
        self.assertEqual(kept(other), ([], [], NOTHING, 0, 0))
        other.come([1, 1])
        other.need(3)
        self.assertEqual(kept(one), ([[7]], [(7, 1)], ([(7, 1)], [], []), 1, 1))


class Changes(unittest.TestCase):
    def test_behind_each_deed(self):
        keeper = Keeper(3, 1, 2)
        keeper.come([3, 7])
        self.assertEqual(keeper.changes(), ([(3, 2), (7, 1)], [], []))
        keeper.come([1, 0])
        self.assertEqual(keeper.changes(), ([(0, 4), (1, 3)], [], []))
        keeper.come([3])
        self.assertEqual(keeper.changes(), ([], [(7, 1)], [(0, 4, 3), (1, 3, 2), (3, 2, 1)]))
        keeper.go()
        self.assertEqual(keeper.changes(), ([], [(0, 3), (1, 2)], []))
        keeper.go()
        self.assertEqual(keeper.changes(), ([], [(3, 1)], []))

    def test_behind_need(self):
        keeper = Keeper(3, 1, 2)
        keeper.come([3, 7, 0])
        keeper.need(2)
        self.assertEqual(keeper.changes(), ([], [(7, 1)], []))
        keeper.need(3)
        self.assertEqual(keeper.changes(), ([], [(3, 2)], []))
        keeper.need(1)
        self.assertEqual(keeper.changes(), ([(3, 2), (7, 1)], [], []))

    def test_a_deed_that_changes_nothing(self):
        keeper = Keeper(3, 1, 2)
        keeper.come([3])
        keeper.need(1)
        self.assertEqual(keeper.changes(), NOTHING)
        keeper.come([])
        self.assertEqual(keeper.changes(), NOTHING)
        keeper.come([3])
        self.assertEqual(keeper.closed(), [(3, 1)])
        self.assertEqual(keeper.changes(), NOTHING)

    def test_a_day_that_goes_as_another_comes_is_one_deed(self):
        keeper = Keeper(3, 1, 1)
        keeper.come([3])
        keeper.come([5])
        self.assertEqual(keeper.changes(), ([(5, 1)], [(3, 1)], []))
        keeper.come([5, 5])
        self.assertEqual(keeper.changes(), ([], [], [(5, 1, 2)]))

    def test_a_need_ahead_of_all_days(self):
        keeper = Keeper(3, 1, 1)
        keeper.need(2)
        self.assertEqual(kept(keeper), ([], [], NOTHING, 0, 0))
        keeper.come([1])
        self.assertEqual(keeper.closed(), [])

    def test_asking_is_no_deed(self):
        keeper = Keeper(3, 1, 2)
        keeper.come([3, 7])
        before = kept(keeper)
        for turn in range(3):
            self.assertEqual(kept(keeper), before)


class Refusals(unittest.TestCase):
    def test_go_without_a_day(self):
        keeper = Keeper(3, 1, 2)
        with self.assertRaises(NoDay):
            keeper.go()
        self.assertEqual(kept(keeper), ([], [], NOTHING, 0, 0))
        keeper.come([3])
        keeper.go()
        before = kept(keeper)
        self.assertEqual(before, ([], [], ([], [(3, 1)], []), 0, 0))
        for turn in range(2):
            with self.assertRaises(NoDay):
                keeper.go()
            self.assertEqual(kept(keeper), before)

    def test_need_below_one(self):
        for least in (0, -1, -FORTY):
            keeper = Keeper(3, 2, 2)
            with self.assertRaises(NoLeast):
                keeper.need(least)
            self.assertEqual(kept(keeper), ([], [], NOTHING, 0, 0))
            keeper.come([3, 3, 7])
            before = kept(keeper)
            with self.assertRaises(NoLeast):
                keeper.need(least)
            self.assertEqual(kept(keeper), before)
            self.assertEqual(keeper.changes(), ([(3, 3)], [], []))
            keeper.come([])
            self.assertEqual(keeper.closed(), [(3, 3)])

    def test_what_comes_behind_a_refusal_is_as_if_it_had_not_been(self):
        keeper = Keeper(3, 1, 2)
        keeper.come([3])
        with self.assertRaises(NoLeast):
            keeper.need(0)
        keeper.come([1])
        self.assertEqual(keeper.days(), [[3], [1]])
        self.assertEqual(keeper.changes(), ([(1, 2)], [], []))
        keeper.go()
        keeper.go()
        with self.assertRaises(NoDay):
            keeper.go()
        keeper.come([7])
        self.assertEqual(keeper.changes(), ([(7, 1)], [], []))

    def test_refusals_are_often_errors(self):
        keeper = Keeper(1, 1, 1)
        with self.assertRaises(OftenError):
            keeper.go()
        with self.assertRaises(OftenError):
            keeper.need(0)


class ByChance(unittest.TestCase):
    def assert_as_the_book_tells(self, keeper, many, least, days, ahead):
        book = (many, [basket for day in days for basket in day])
        closed = plain.closed_lots(book, least)
        self.assertEqual(keeper.days(), days)
        self.assertTrue(keeper.closed() == closed)
        self.assertTrue(keeper.changes() == plainrules.changes(ahead, closed))
        for lot in (0, 1, 2 ** many - 1):
            self.assertEqual(keeper.count(lot), plain.count(book, lot))
        return closed

    def deeds(self, chance, many, most, most_baskets, turns):
        least = chance.randint(1, 3)
        keeper = Keeper(many, least, most)
        days, ahead = [], []
        for turn in range(turns):
            choice = chance.random()
            if choice < 0.6:
                day = [chance.randrange(2 ** many) for place in range(chance.randint(0, most_baskets))]
                keeper.come(day)
                days = (days + [list(day)])[-most:]
                day.append(0)
            elif choice < 0.8 and days:
                keeper.go()
                days = days[1:]
            elif choice < 0.8:
                with self.assertRaises(NoDay):
                    keeper.go()
                continue
            elif choice < 0.95:
                least = chance.randint(1, 4)
                keeper.need(least)
            else:
                with self.assertRaises(NoLeast):
                    keeper.need(chance.randint(-2, 0))
                continue
            ahead = self.assert_as_the_book_tells(keeper, many, least, days, ahead)

    def test_few_things(self):
        chance = random.Random(50)
        for turn in range(40):
            self.deeds(chance, chance.randint(1, 5), chance.randint(1, 4), 6, 25)

    def test_twelve_things_and_a_hundred_and_twenty_baskets(self):
        chance = random.Random(51)
        with plain.within_seconds(120):
            self.deeds(chance, 12, 3, 40, 8)
            self.deeds(chance, 12, 10, 12, 14)

    def test_the_most_of_everything(self):
        keeper = Keeper(12, 1, 10)
        with plain.within_seconds(60):
            for day in range(3):
                keeper.come([4095 - 2 ** (place % 12) for place in range(40)])
            self.assertEqual(len(keeper.closed()), 4095)
            self.assertEqual(keeper.count(0), 120)
            self.assertEqual(len(keeper.changes()[2]), 4095)


class AskersOwn(unittest.TestCase):
    def keeper(self):
        keeper = Keeper(3, 1, 3)
        keeper.come([3, 7])
        keeper.come([])
        keeper.come([1, 3, 0])
        return keeper

    def test_a_day_that_is_changed_behind(self):
        keeper = Keeper(3, 1, 3)
        day = [3, 7]
        keeper.come(day)
        before = kept(keeper)
        day.append(0)
        day[0] = 4
        self.assertEqual(kept(keeper), before)
        keeper.come(day)
        self.assertEqual(keeper.days(), [[3, 7], [4, 7, 0]])
        day.clear()
        self.assertEqual(keeper.days(), [[3, 7], [4, 7, 0]])
        self.assertEqual(keeper.count(4), 3)
        keeper.need(2)
        self.assertEqual(keeper.closed(), plain.closed_lots((3, [3, 7, 4, 7, 0]), 2))

    def test_one_day_handed_in_twice(self):
        keeper = Keeper(3, 1, 3)
        day = [3]
        keeper.come(day)
        keeper.come(day)
        keeper.days()[0].append(7)
        day.append(1)
        self.assertEqual(keeper.days(), [[3], [3]])

    def test_a_day_that_is_handed_in_stays(self):
        day = [7, 1, 3, 3]
        keeper = Keeper(3, 2, 1)
        keeper.come(day)
        keeper.need(1)
        keeper.closed()
        keeper.come([])
        self.assertEqual(day, [7, 1, 3, 3])

    def test_changing_what_was_told_changes_no_answer(self):
        keeper = self.keeper()
        before = copy.deepcopy(kept(keeper))
        for told in kept(keeper):
            for inner in reversed(list(plain.lists_in(told))):
                inner.reverse()
                inner.append("another")
        self.assertEqual(kept(keeper), before)
        for told in kept(keeper):
            for inner in plain.lists_in(told):
                inner.clear()
        keeper.need(1)
        self.assertEqual(keeper.changes(), NOTHING)
        self.assertEqual(keeper.closed(), before[1])
        self.assertEqual(keeper.days(), before[0])

    def test_changing_what_was_told_changes_no_later_change(self):
        keeper, like = self.keeper(), self.keeper()
        for told in kept(keeper):
            for inner in plain.lists_in(told):
                inner.clear()
        for one in (keeper, like):
            one.go()
        self.assertEqual(kept(keeper), kept(like))
        self.assertEqual(keeper.changes(), ([], [(7, 1)], [(0, 5, 3), (1, 4, 2), (3, 3, 1)]))

    def test_what_was_told_stays_behind_later_deeds(self):
        keeper = self.keeper()
        told = kept(keeper)
        as_told = copy.deepcopy(told)
        keeper.need(2)
        keeper.come([5, 5])
        kept(keeper)
        keeper.go()
        with self.assertRaises(NoLeast):
            keeper.need(0)
        keeper.go()
        keeper.go()
        with self.assertRaises(NoDay):
            keeper.go()
        self.assertEqual(told, as_told)

    def test_each_list_is_new_and_stands_at_one_place_alone(self):
        for keeper in (self.keeper(), Keeper(3, 1, 3)):
            # Both are kept, so that no list's place in memory is given to another one.
            first, again = kept(keeper), kept(keeper)
            inner = list(plain.lists_in(first)) + list(plain.lists_in(again))
            self.assertEqual(len({id(one) for one in inner}), len(inner))

    def test_kinds(self):
        for keeper in (self.keeper(), Keeper(3, 1, 3)):
            days, closed, changes, none, one = kept(keeper)
            self.assertEqual([type(told) for told in (days, closed, changes)], [list, list, tuple])
            self.assertEqual([type(told) for told in changes], [list, list, list])
            self.assertTrue(all(type(row) is tuple for row in closed))
            self.assertTrue(all(type(row) is tuple for rows in changes for row in rows))
            for part in plain.all_in((days, closed, changes, none, one)):
                self.assertIn(type(part), (int, list, tuple))


if __name__ == "__main__":
    unittest.main()
