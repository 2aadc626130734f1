"""Promises 34 to 38: what surely comes on, what perhaps does, and both as Rules."""

import unittest
from random import Random

from tests.cases import Case
from tests.known import common, ends_of, loose_books, perhaps_of, random_contraries, seen_to_end, small_barred, small_fitting
from tests.known import some_fit, some_lots, surely_of, together, wrong_lots
from tests.plain import SIX, all_lots, base_of, end, ends as plain_ends, has_within, odd_values
from tests.seen import SMALL, book_of, every_ends, great_books, shape, tight_books
from wakesothers.bases import base
from wakesothers.books import Book
from wakesothers.errors import BadLot, NoRules
from wakesothers.fitting import broken, fits
from wakesothers.judging import judged
from wakesothers.rules import Rules
from wakesothers.surely import comes, ends, outer, sure

THREE = ("fan", "lamp", "pump")
BOOK = Book("devices fan lamp pump\nwakes fan lamp > pump\nstays lamp\nstirs fan\nsleeps pump > lamp")
BARRED = BOOK.told(("stays", ("fan",)))


def word(book, fact):
    return judged(book, (fact,))[0]


def all_six_books(chance):
    """The greatest books, those by which much is open, and some that few Rules or none fit."""
    found = [facts for _, facts in great_books()[::3] + loose_books()]
    return found + [random_contraries(facts, chance, 1 + at % 2) for at, facts in enumerate(found)]


class Promise34(Case):
    def test_comes_and_ends_of_small_books(self):
        for devices, facts, found in small_fitting():
            book = book_of(devices, facts)
            for lot in all_lots(devices):
                wanted = (surely_of(devices, found, lot), perhaps_of(devices, found, lot))
                self.alike(wanted, comes(book, lot))
                self.alike(ends_of(found, lot), ends(book, lot))

    def test_much_is_open_and_much_is_not(self):
        many = {True: 0, False: 0}
        for devices, facts, found in small_fitting():
            for lot in all_lots(devices):
                many[len(ends(book_of(devices, facts), lot)) > 1] += 1
        self.assertGreater(min(many.values()), 300)

    def test_books_without_facts(self):
        for many in range(1, 7):
            devices = SIX[:many]
            book = book_of(devices, ())
            for lot in all_lots(devices):
                self.alike((lot, devices), comes(book, lot))
                wanted = tuple(sorted(other for other in all_lots(devices) if has_within(other, lot)))
                self.alike(wanted, ends(book, lot))
            self.alike((), sure(book).bundles)
            self.alike((devices,), outer(book).rests)

    def test_by_hand(self):
        self.alike((("fan", "pump"), THREE), comes(BOOK, ("fan",)))
        self.alike((THREE, ("fan", "pump")), ends(BOOK, ("fan",)))
        self.alike((("lamp",), ("lamp",)), comes(BOOK, ("lamp",)))
        self.alike((("lamp",),), ends(BOOK, ("lamp",)))
        self.alike((THREE, THREE), comes(BOOK, ("fan", "lamp")))
        # Whichever came on beside a, c is on in the end.
        book = Book("devices a b c d\nstirs a\nwakes a b > c\nwakes a d > c")
        self.alike((("a", "c"), ("a", "b", "c", "d")), comes(book, ("a",)))
        self.alike((("a", "b", "c"), ("a", "b", "c", "d"), ("a", "c"), ("a", "c", "d")), ends(book, ("a",)))
        # Both perhaps come, but never together.
        book = Book("devices a b c d\nstirs a\nwakes b c > d\nsleeps a > d")
        self.alike((("a",), ("a", "b", "c")), comes(book, ("a",)))
        self.alike((("a", "b"), ("a", "c")), ends(book, ("a",)))

    def test_ascending_is_by_names_not_by_sequence(self):
        self.alike((("b",), ("b", "a")), ends(Book("devices b a"), ("b",)))
        self.alike(((), ("a",), ("z",), ("z", "a")), ends(Book("devices z a"), ()))
        self.alike((("a",), ("b", "a"), ("c", "a"), ("c", "b", "a")), ends(Book("devices c b a\nstirs b\nstays c b a"), ("a",)))


class Promise35(Case):
    def check(self, facts, lot):
        book = book_of(SIX, facts)
        surely, perhaps = comes(book, lot)
        told = ends(book, lot)
        self.alike(surely, common(SIX, told))
        self.alike(perhaps, together(SIX, told))
        for name in SIX:
            if name not in lot:
                fact = word(book, ("wakes", lot, name))
                self.assertIs(name in surely, fact == "always")
                self.assertIs(name in perhaps, fact != "never")
        return told

    def test_greatest_books(self):
        chance = Random(1)
        for rules, facts in great_books():
            for lot in some_lots(SIX, chance, 6):
                self.assertIn(end(SIX, rules.bundles, lot), self.check(facts, lot))

    def test_books_by_which_much_is_open(self):
        chance = Random(2)
        for rules, facts in loose_books():
            for lot in some_lots(SIX, chance, 4):
                self.assertIn(end(SIX, rules.bundles, lot), self.check(facts, lot))

    def test_each_end_is_one_by_some_rules(self):
        chance = Random(3)
        many = {True: 0, False: 0}
        for _, facts in (great_books() + loose_books())[::4]:
            for lot in chance.sample([lot for lot in all_lots(SIX) if len(lot) > 1], 3):
                told = ends(book_of(SIX, facts), lot)
                for rest in all_lots(SIX):
                    if has_within(rest, lot):
                        wanted = some_fit(SIX, facts + seen_to_end(lot, rest))
                        self.assertIs(wanted, rest in told, (facts, lot, rest))
                        many[wanted] += 1
                self.alike(tuple(sorted(told)), told)
        self.assertGreater(min(many.values()), 200)

    def test_no_rules_just_where_none_fit(self):
        many = {True: 0, False: 0}
        for facts in all_six_books(Random(4)):
            book = book_of(SIX, facts)
            fit = some_fit(SIX, facts)
            many[fit] += 1
            if fit:
                self.assertIn(ends(book, SIX), ((SIX,),))
                for value in (SIX[::-1], None, ["a"]):
                    self.refused(BadLot, value, comes, book, value)
                    self.refused(BadLot, value, ends, book, value)
            else:
                for value in (SIX, (), SIX[::-1], None, ["a"]):
                    for call in (comes, ends):
                        self.refused(NoRules, book, call, book, value)
                self.refused(NoRules, book, sure, book)
                self.refused(NoRules, book, outer, book)
        self.assertGreater(min(many.values()), 20)

    def test_no_rules_where_all_that_stirs_is_needed(self):
        for book in tight_books():
            self.refused(NoRules, book, comes, book, ())
            self.refused(NoRules, book, ends, book, None)
            for number in range(len(book)):
                fewer = book.untold(number)
                for lot in (("a",), ("b", "e"), fewer.facts[number - 1][1], SIX):
                    self.check(fewer.facts, lot)


class Promise36(Case):
    def test_sure_and_outer_of_small_books(self):
        for devices, facts, found in small_fitting():
            book = book_of(devices, facts)
            lots = all_lots(devices)
            surely = {lot: surely_of(devices, found, lot) for lot in lots}
            rules = sure(book)
            self.alike((devices, base_of(devices, surely)), (rules.devices, rules.bundles))
            self.alike(surely, plain_ends(devices, rules.bundles))
            stay = [lot for lot in lots if all(told[lot] == lot for _, told in found)]
            rules = outer(book)
            self.alike(devices, rules.devices)
            self.alike(tuple(sorted(stay)), rules.rests)
            self.alike(base_of(devices, plain_ends(devices, rules.bundles)), rules.bundles)

    def test_all_that_fit_are_between(self):
        for devices, facts, found in small_fitting():
            book = book_of(devices, facts)
            inner, around = sure(book), outer(book)
            for rules, _ in found:
                self.is_true(inner.is_within(rules))
                self.is_true(rules.is_within(around))

    def test_by_hand(self):
        self.alike(((("fan",), ("pump",)),), sure(BOOK).bundles)
        self.alike(((), THREE, ("lamp",)), outer(BOOK).rests)
        self.alike((), sure(Book("devices a b c\nstirs a")).bundles)
        self.alike(((("a",), ("b", "c")), (("c",), ("b",))), sure(Book("devices a b c\nwakes c > b\nwakes a > c")).bundles)
        self.alike(((), ("a",), ("a", "b")), outer(Book("devices a b\nstays\nstays a")).rests)

    def test_what_stays_surely_stays_by_all(self):
        for devices, facts, found in small_fitting()[::3]:
            book = book_of(devices, facts)
            for lot in all_lots(devices):
                self.assertIs(lot in outer(book).rests, word(book, ("stays", lot)) == "always")


class Promise37(Case):
    def books(self):
        chance = Random(5)
        for rules, facts in great_books()[::2]:
            stirs = [fact for fact in facts if fact[0] == "stirs"]
            others = [fact for fact in facts if fact[0] != "stirs"]
            yield rules, tuple(chance.sample(stirs + chance.sample(others, 17), 20))
        yield from loose_books()[::2]

    def test_books_of_six_devices(self):
        for at, (rules, facts) in enumerate(self.books()):
            book = book_of(SIX, facts)
            inner, around = sure(book), outer(book)
            told = plain_ends(SIX, inner.bundles)
            for lot in all_lots(SIX):
                surely, perhaps = comes(book, lot)
                self.alike(surely, told[lot])
                self.alike(surely, comes(book, surely)[0])
                self.assertIs(lot in around.rests, perhaps == lot)
            self.alike(base_of(SIX, told), inner.bundles)
            self.alike(base(around).bundles, around.bundles)
            self.is_true(inner.is_within(rules))
            self.is_true(rules.is_within(around))
            for lot in some_lots(SIX, Random(at), 2):
                self.assertIs(lot in around.rests, word(book, ("stays", lot)) == "always")

    def test_from_more_no_less_comes(self):
        for devices, facts, _ in small_fitting():
            book = book_of(devices, facts)
            for lot in all_lots(devices):
                surely, perhaps = comes(book, lot)
                self.alike(surely, comes(book, surely)[0])
                for more in all_lots(devices):
                    if has_within(more, lot):
                        self.assertTrue(has_within(comes(book, more)[0], surely))
                        self.assertTrue(has_within(comes(book, more)[1], perhaps))


class Promise38(Case):
    def test_sure_need_not_fit(self):
        for devices, facts, found in small_fitting():
            book = book_of(devices, facts)
            wanted = any(told == plain_ends(devices, sure(book).bundles) for _, told in found)
            self.assertIs(wanted, fits(book, sure(book)))
            self.assertTrue({facts[number][0] for number in broken(book, sure(book))} <= {"stirs"})
            self.assertTrue({facts[number][0] for number in broken(book, outer(book))} <= {"sleeps"})
        self.is_false(fits(Book("devices a b c\nstirs a"), sure(Book("devices a b c\nstirs a"))))
        self.is_true(fits(BOOK, sure(BOOK)))

    def test_outer_need_not_fit(self):
        book = Book("devices a b\nsleeps a > b")
        self.is_true(fits(book, outer(book)))
        book = Book("devices a b c\nsleeps a b > c\nsleeps > a")
        self.is_false(fits(book, outer(book)))

    def test_wrong_lots(self):
        for value in wrong_lots() + odd_values():
            if value == ():
                continue
            for call in (comes, ends):
                self.refused(BadLot, value, call, BOOK, value)
                self.refused(BadLot, value, call, lot=value, book=BOOK)
                self.refused(NoRules, BARRED, call, BARRED, value)
                self.refused(NoRules, BARRED, call, lot=value, book=BARRED)

    def test_no_rules(self):
        for devices, facts in small_barred():
            book = book_of(devices, facts)
            for call in (comes, ends):
                for value in ((), devices, None, ["fan"], ("fox",)):
                    self.refused(NoRules, book, call, book, value)
            self.refused(NoRules, book, sure, book)
            self.refused(NoRules, book, outer, book=book)

    def test_lots_of_other_devices(self):
        for devices in SMALL + (SIX,):
            for value in (("fox",), devices + ("fox",), devices + devices[-1:], list(devices), (devices,)):
                for call in (comes, ends):
                    self.refused(BadLot, value, call, book_of(devices, ()), value)

    def test_books_that_just_one_set_of_rules_fits(self):
        for rules, told in every_ends(("pump", "fan", "lamp"))[::5]:
            facts = [("stays", lot) for lot in told if told[lot] == lot]
            facts += [("wakes", lot, name) for lot in told for name in told[lot] if name not in lot]
            if len([fact for fact in facts if fact[0] == "wakes"]) < 9:
                book = book_of(rules.devices, facts)
                self.alike(shape(base(rules)), shape(sure(book)))
                self.alike(shape(base(rules)), shape(outer(book)))
                for lot in told:
                    self.alike((told[lot],), ends(book, lot))


class Types(Case):
    def test_rules_are_rules(self):
        self.assertIs(Rules, sure(BOOK).__class__)
        self.assertIs(Rules, outer(BOOK).__class__)


if __name__ == "__main__":
    unittest.main()
