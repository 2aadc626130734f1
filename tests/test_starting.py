"""Promises 42 to 47: from which lots a goal comes, what holds it back, and what it costs."""

import unittest
from random import Random

from tests.cases import Case
from tests.known import chance_lots, greatest, least, loose_books, random_contraries, small_barred, small_fitting, some_fit
from tests.known import some_lots, sure_lots, with_wakes, wrong_lots
from tests.plain import SIX, all_lots, has_within, in_sequence, odd_values
from tests.seen import SMALL, all_facts, book_of, great_books, so_by, tight_books
from wakesothers.books import Book
from wakesothers.errors import BadLot, BadPrices, NoRules
from wakesothers.fitting import possible
from wakesothers.judging import judged
from wakesothers.starting import blockers, chances, cheapest, starters
from wakesothers.surely import comes

THREE = ("fan", "lamp", "pump")
BOOK = Book("devices fan lamp pump\nwakes fan lamp > pump\nstays lamp\nstirs fan\nsleeps pump > lamp")
BARRED = BOOK.told(("stays", ("fan",)))
GOAL_CALLS = (starters, blockers, chances)


def price_of(devices, prices, lot):
    return sum(price for name, price in zip(devices, prices) if name in lot)


def cheapest_of(devices, lots, prices):
    """The least price of these lots, and those of this price."""
    price = min(price_of(devices, prices, lot) for lot in lots)
    return (price, tuple(sorted(lot for lot in lots if price_of(devices, prices, lot) == price)))


def some_prices(devices, chance, many):
    every = [(1,) * len(devices), (9,) * len(devices)]
    return every + [tuple(chance.choice((1, 1, 2, 3, 5, 9)) for _ in devices) for _ in range(many)]


def wrong_prices():
    """Values that are no prices of fan, lamp, pump."""
    found = odd_values() + [
        (), (1,), (1, 1), (1, 1, 1, 1), [1, 1, 1], {1: 1}, "111", ("1", "1", "1"), (1, 1, "1"), (1, 1, None), ((1, 1, 1),), (1, 1, [1]),
        ((1,), (1,), (1,)), (0, 1, 1), (1, 0, 1), (1, 1, 0), (1, 1, 10), (10, 1, 1), (9, 9, 10), (-1, 1, 1), (1, 1, -9), (True, 1, 1),
        (1, True, 1), (1, 1, True), (1, False, 1), (1, 1, 999999999), (1, 1, (1,)), THREE, 1, 111, {"fan": 1, "lamp": 1, "pump": 1},
    ]
    return found


class Promise42(Case):
    def test_starters_and_blockers_of_small_books(self):
        for devices, facts, found in small_fitting():
            book = book_of(devices, facts)
            for goal in all_lots(devices):
                sure = sure_lots(devices, found, goal)
                others = [lot for lot in all_lots(devices) if lot not in sure]
                self.alike(least(sure), starters(book, goal))
                self.alike(greatest(others), blockers(book, goal))

    def test_of_the_greatest_books(self):
        chance = Random(1)
        for _, facts in great_books()[::2] + loose_books()[::2]:
            book = book_of(SIX, facts)
            surely = {lot: comes(book, lot)[0] for lot in all_lots(SIX)}
            for goal in some_lots(SIX, chance, 3):
                sure = [lot for lot in surely if has_within(surely[lot], goal)]
                others = [lot for lot in all_lots(SIX) if lot not in sure]
                self.alike(least(sure), starters(book, goal))
                self.alike(greatest(others), blockers(book, goal))

    def test_no_rules(self):
        books = [book_of(devices, facts) for devices, facts in small_barred()] + tight_books()
        for book in books:
            for goal in ((), book.devices, book.devices[:1], None, ["fan"], ("fox",)):
                for call in GOAL_CALLS:
                    self.refused(NoRules, book, call, book, goal)
                    self.refused(NoRules, book, call, goal=goal, book=book)
                for prices in ((1,) * len(book.devices), None, ()):
                    self.refused(NoRules, book, cheapest, book, goal, prices)

    def test_no_rules_just_where_none_fit(self):
        chance = Random(2)
        many = {True: 0, False: 0}
        for _, facts in great_books()[::2] + loose_books()[::2]:
            told = random_contraries(facts, chance, 1)
            book = book_of(SIX, told)
            fit = some_fit(SIX, told)
            many[fit] += 1
            if not fit:
                for call in GOAL_CALLS:
                    self.refused(NoRules, book, call, book, ("a",))
            else:
                self.alike(((),), starters(book, ()))
        self.assertGreater(min(many.values()), 10)


class Promise43(Case):
    def check(self, book, goal):
        told, barring = starters(book, goal), blockers(book, goal)
        for lot in all_lots(book.devices):
            sure = has_within(comes(book, lot)[0], goal)
            self.assertIs(sure, any(has_within(lot, one) for one in told))
            self.assertIs(not sure, any(has_within(one, lot) for one in barring))
        for lot in told:
            for name in lot:
                fewer = tuple(other for other in lot if other != name)
                self.assertFalse(has_within(comes(book, fewer)[0], goal))
        for lot in barring:
            for name in book.devices:
                if name not in lot:
                    more = in_sequence(book.devices, lot + (name,))
                    self.assertTrue(has_within(comes(book, more)[0], goal))

    def test_small_books(self):
        for devices, facts, _ in small_fitting()[::2]:
            for goal in all_lots(devices):
                self.check(book_of(devices, facts), goal)

    def test_six_devices(self):
        chance = Random(3)
        for _, facts in great_books()[::6] + loose_books()[::6]:
            for goal in some_lots(SIX, chance, 1):
                self.check(book_of(SIX, facts), goal)

    def test_by_judged(self):
        for devices, facts, _ in small_fitting()[::5]:
            book = book_of(devices, facts)
            for name in devices:
                for lot in all_lots(devices):
                    if name not in lot:
                        sure = judged(book, (("wakes", lot, name),))[0] == "always"
                        self.assertIs(sure, any(has_within(lot, one) for one in starters(book, (name,))))

    def test_with_a_fact_more_starters_are_no_greater(self):
        chance = Random(4)
        many = 0
        for devices, facts, found in small_fitting():
            book = book_of(devices, facts)
            more = [fact for fact in all_facts(devices) if fact not in facts and any(so_by(told, fact) for _, told in found)]
            for fact in chance.sample(more, min(4, len(more))):
                told = book_of(devices, facts + (fact,)) if fact[0] != "stirs" or len(facts) < 3 else book
                for goal in all_lots(devices):
                    for lot in starters(book, goal):
                        self.assertTrue(any(has_within(lot, one) for one in starters(told, goal)))
                        many += lot not in starters(told, goal)
        self.assertGreater(many, 50)


class Promise44(Case):
    def test_small_books(self):
        for devices, facts, found in small_fitting():
            book = book_of(devices, facts)
            for goal in all_lots(devices):
                told = chances(book, goal)
                self.alike(least(chance_lots(devices, found, goal)), told)
                for lot in starters(book, goal):
                    self.assertTrue(any(has_within(lot, one) for one in told))

    def test_six_devices(self):
        chance = Random(5)
        for _, facts in great_books()[::5] + loose_books()[::5]:
            book = book_of(SIX, facts)
            for goal in some_lots(SIX, chance, 2)[1:]:
                told = chances(book, goal)
                right = [lot for lot in all_lots(SIX) if some_fit(SIX, facts + with_wakes(lot, goal))]
                self.alike(least(right), told)
                for lot in starters(book, goal):
                    self.assertTrue(any(has_within(lot, one) for one in told))

    def test_together_is_not_each_by_itself(self):
        # Each of b and c perhaps comes on from a, and from nothing, but never both.
        book = Book("devices a b c d\nstirs a\nwakes b c > d\nsleeps a > d")
        self.alike([((),), ((),)], [chances(book, ("b",)), chances(book, ("c",))])
        self.alike((("b",), ("c",), ("d",)), chances(book, ("b", "c")))

    def test_by_hand(self):
        self.alike((("fan",), ("lamp",)), chances(BOOK, ("lamp",)))
        self.alike(((),), chances(BOOK, ()))
        self.alike(((),), chances(Book("devices a b"), ("a", "b")))
        self.alike((("a",),), chances(Book("devices a b\nsleeps b > a"), ("a",)))


class Promise45(Case):
    def test_small_books(self):
        chance = Random(6)
        for devices, facts, found in small_fitting():
            book = book_of(devices, facts)
            for goal in all_lots(devices):
                sure = sure_lots(devices, found, goal)
                for prices in some_prices(devices, chance, 2):
                    told = cheapest(book, goal, prices)
                    self.alike(cheapest_of(devices, sure, prices), told)
                    self.assertTrue(set(told[1]) <= set(starters(book, goal)))

    def test_six_devices(self):
        chance = Random(7)
        several = 0
        for _, facts in great_books()[::3] + loose_books()[1::3]:
            book = book_of(SIX, facts)
            surely = {lot: comes(book, lot)[0] for lot in all_lots(SIX)}
            for goal in some_lots(SIX, chance, 2):
                sure = [lot for lot in surely if has_within(surely[lot], goal)]
                for prices in some_prices(SIX, chance, 1):
                    told = cheapest(book, goal, prices)
                    self.alike(cheapest_of(SIX, sure, prices), told)
                    several += len(told[1]) > 1
        self.assertGreater(several, 20)

    def test_what_is_surely_on_costs_nothing(self):
        self.alike((0, ((),)), cheapest(BOOK, (), (1, 1, 1)))
        self.alike((0, ((),)), cheapest(Book("devices a b\nwakes > b"), ("b",), (9, 9)))


class Promise46(Case):
    def test_wrong_goals(self):
        for value in wrong_lots() + odd_values():
            if value == ():
                continue
            for call in GOAL_CALLS:
                self.refused(BadLot, value, call, BOOK, value)
                self.refused(BadLot, value, call, goal=value, book=BOOK)
                self.refused(NoRules, BARRED, call, BARRED, value)
            for prices in ((1, 1, 1), (1, 1, 10), None, (1, 1), []):
                self.refused(BadLot, value, cheapest, BOOK, value, prices)
                self.refused(BadLot, value, cheapest, prices=prices, goal=value, book=BOOK)
                self.refused(NoRules, BARRED, cheapest, BARRED, value, prices)

    def test_wrong_prices(self):
        for value in wrong_prices():
            self.refused(BadPrices, value, cheapest, BOOK, ("fan",), value)
            self.refused(BadPrices, value, cheapest, BOOK, (), value)
            self.refused(BadPrices, value, cheapest, prices=value, book=BOOK, goal=("pump",))
            self.refused(NoRules, BARRED, cheapest, BARRED, ("fan",), value)

    def test_prices_at_their_bounds(self):
        for price in range(1, 10):
            for prices in ((price, 1, 1), (1, price, 1), (1, 1, price), (9, price, 9)):
                sure = [("fan",), ("pump",)]
                self.alike(cheapest_of(THREE, sure, prices), cheapest(BOOK, ("pump",), prices))
        for price in (-1, 0, 10, 11, True, False, "1", None, (1,), 100):
            for at in range(3):
                prices = (1, 2, 3)[:at] + (price,) + (1, 2, 3)[at + 1 :]
                self.refused(BadPrices, prices, cheapest, BOOK, ("pump",), prices)

    def test_as_many_prices_as_devices(self):
        for devices in SMALL + (SIX,):
            book = book_of(devices, ())
            for many in range(9):
                prices = (2,) * many
                if many == len(devices):
                    self.alike((2 * many, (devices,)), cheapest(book, devices, prices))
                else:
                    self.refused(BadPrices, prices, cheapest, book, devices, prices)


class Promise47(Case):
    def test_a_chain(self):
        for devices in (SIX, SIX[::-1], SIX[:1], SIX[:2]):
            book = book_of(devices, [("wakes", (one,), other) for one, other in zip(devices, devices[1:])])
            for at, name in enumerate(devices):
                self.alike(tuple(sorted((one,) for one in devices[: at + 1])), starters(book, (name,)))
                self.alike((devices[at + 1 :],), blockers(book, (name,)))
            self.alike(((devices[0],),), starters(book, devices))
            self.alike(tuple(sorted((one,) for one in devices)), starters(book, devices[-1:]))

    def test_what_two_wake_together(self):
        book = Book("devices a b c d\nwakes a b > d")
        self.alike((("a", "b"), ("d",)), starters(book, ("d",)))
        self.alike((("a", "c"), ("b", "c")), blockers(book, ("d",)))
        self.alike((("a", "b", "c"), ("c", "d")), starters(book, ("c", "d")))

    def test_what_stirred_whichever_it_was(self):
        book = Book("devices a b c d\nstirs a\nwakes a b > d\nwakes a c > d")
        self.alike((("a",), ("d",)), starters(book, ("d",)))
        self.alike((("b", "c"),), blockers(book, ("d",)))
        self.alike((("a", "b"), ("d",)), starters(book.untold(2), ("d",)))
        self.alike((("b", "c"), ("a", "c")), blockers(book.untold(2), ("d",))[::-1])

    def test_a_goal_that_nothing_starts_but_itself(self):
        for facts in ((), (("stays", ("a", "b", "d", "e", "f")),), (("wakes", ("c",), "a"), ("stirs", ("a",)))):
            book = book_of(SIX, facts)
            self.alike((("c",),), starters(book, ("c",)))
            self.alike((("a", "b", "d", "e", "f"),), blockers(book, ("c",)))

    def test_the_goal_of_nothing(self):
        for devices, facts, _ in small_fitting():
            book = book_of(devices, facts)
            self.alike(((),), starters(book, ()))
            self.alike((), blockers(book, ()))
            self.alike(((),), chances(book, ()))
            self.alike((0, ((),)), cheapest(book, (), (9,) * len(devices)))

    def test_what_comes_from_nothing(self):
        book = Book("devices a b c\nwakes > b\nwakes b > c")
        self.alike(((),), starters(book, ("b", "c")))
        self.alike((), blockers(book, ("b", "c")))
        self.alike((("a",),), starters(book, ("a", "b", "c")))

    def test_a_long_way_is_cheap(self):
        book = Book("devices a b c d e f\nwakes a > f\nwakes b c d e > f")
        self.alike((4, (("b", "c", "d", "e"),)), cheapest(book, ("f",), (5, 1, 1, 1, 1, 9)))
        self.alike((4, (("a",), ("b", "c", "d", "e"))), cheapest(book, ("f",), (4, 1, 1, 1, 1, 9)))
        self.alike((3, (("a",),)), cheapest(book, ("f",), (3, 1, 1, 1, 1, 4)))
        self.alike((3, (("a",), ("f",))), cheapest(book, ("f",), (3, 1, 1, 1, 1, 3)))

    def test_the_example(self):
        self.alike((("fan",), ("pump",)), starters(BOOK, ("pump",)))
        self.alike((("lamp",),), blockers(BOOK, ("pump",)))
        self.alike((2, (("fan",),)), cheapest(BOOK, ("pump",), (2, 1, 3)))
        self.assertEqual("rules", possible(BOOK)[0])


if __name__ == "__main__":
    unittest.main()
