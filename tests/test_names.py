"""Promises 60, 78 and 79: other names and sequences, and facts more."""

import unittest
from random import Random

from tests.cases import Case
from tests.known import as_many_as_may_be, led_lot, led_lots, loose_books, renamings, small_barred, small_fitting, some_lots
from tests.plain import SIX, all_lots, end, has_within
from tests.seen import all_facts, book_of, great_books, random_facts, renamed, small_books, so_by, so_of, tight_books
from tests.test_comparing import small_pairs
from tests.test_trying import cases as trying_cases
from tests.test_trying import some_offers
from wakesothers.bases import base, needing, of_rests, own_rests
from wakesothers.comparing import alike, mend, needless, quarrels, within
from wakesothers.errors import TooMany
from wakesothers.fitting import broken, possible
from wakesothers.judging import either, judged
from wakesothers.rules import Rules
from wakesothers.starting import blockers, chances, cheapest, starters
from wakesothers.surely import comes, ends, outer, sure
from wakesothers.trying import trials
from wakesothers.watches import Watch


class Led:
    """A book, and the same one by other names, its devices and facts in other sequences."""

    def __init__(self, devices, facts, table, others, chance):
        self.devices, self.table, self.others = devices, table, others
        # Behind each fact of the other book stands the number that it has here.
        self.numbers = list(range(len(facts)))
        chance.shuffle(self.numbers)
        self.book = book_of(devices, facts)
        self.other = book_of(others, [self.fact(facts[number]) for number in self.numbers])

    def fact(self, fact):
        return renamed(self.table, self.others, fact)

    def lot(self, lot):
        return led_lot(self.table, self.others, lot)

    def lots(self, lots):
        return led_lots(self.table, self.others, lots)

    def back(self, numbers):
        """The numbers of facts of the other book, as they are here."""
        return tuple(sorted(self.numbers[number] for number in numbers))

    def prices(self, prices):
        told = {self.table[name]: price for name, price in zip(self.devices, prices)}
        return tuple(told[name] for name in self.others)


def all_led(chance, books):
    for devices, facts in books:
        for table, others in renamings(devices, chance, 2 if len(devices) < 6 else 1):
            yield Led(devices, facts, table, others, chance)


def fit_books():
    found = [(devices, facts) for devices, facts, _ in small_fitting()[::5]]
    return found + [(SIX, facts) for _, facts in great_books()[::12] + loose_books()[::12]]


def go(book):
    try:
        return len(mend(book)[0])
    except TooMany:
        return 5


class Promise60(Case):
    def test_goals(self):
        chance = Random(61)
        for led in all_led(chance, fit_books()):
            for goal in some_lots(led.devices, chance, 2):
                for call in (starters, blockers, chances):
                    self.alike(led.lots(call(led.book, goal)), call(led.other, led.lot(goal)))
                prices = tuple(chance.randrange(1, 10) for _ in led.devices)
                price, lots = cheapest(led.book, goal, prices)
                self.alike((price, led.lots(lots)), cheapest(led.other, led.lot(goal), led.prices(prices)))

    def test_books_beside_one_another(self):
        chance = Random(62)
        words = []
        for devices, facts, others in small_pairs()[::5]:
            table, names = renamings(devices, chance, 1)[0]
            one, other = Led(devices, facts, table, names, chance), Led(devices, others, table, names, chance)
            words.append(within(one.book, other.book)[0])
            self.alike(words[-1], within(one.other, other.other)[0])
            if possible(other.book)[0] == "rules":
                words.append(alike(one.book, other.book)[0])
                self.alike(words[-1], alike(one.other, other.other)[0])
        self.assertEqual({"within", "parts", "alike"}, set(words))

    def test_facts_beside_one_another(self):
        chance = Random(63)
        books = fit_books() + small_barred()[::2] + [(SIX, book.facts) for book in tight_books()]
        for led in all_led(chance, books):
            if possible(led.book)[0] == "rules":
                self.alike(needless(led.book), led.back(needless(led.other)))
            if len(led.book) <= 12:
                self.alike(quarrels(led.book), tuple(sorted(led.back(quarrel) for quarrel in quarrels(led.other))))
            self.assertEqual(go(led.book), go(led.other))

    def test_trials(self):
        chance = Random(64)
        prices = []
        for devices, facts, _, offers, claim in trying_cases()[::7]:
            for table, others in renamings(devices, chance, 1):
                led = Led(devices, facts, table, others, chance)
                turned = [(led.lot(lot), price) for lot, price in offers]
                chance.shuffle(turned)
                told, there = trials(led.book, offers, claim), trials(led.other, tuple(turned), led.fact(claim))
                self.alike(told[:1], there[:1])
                prices.append(told[:1])
        self.assertGreater(len(set(prices)), 4)


class Promise79(Case):
    def test_rules(self):
        chance = Random(65)
        for rules in [rules for rules, _ in great_books()[::4]] + [found[0][0] for _, _, found in small_fitting()[::9]]:
            for table, others in renamings(rules.devices, chance):
                bundles = [tuple(led_lot(table, others, part) for part in bundle) for bundle in rules.bundles]
                chance.shuffle(bundles)
                led = Rules(others, tuple(bundles))
                lots = all_lots(rules.devices)
                self.alike(led_lots(table, others, rules.rests), led.rests)
                for lot in chance.sample(lots, min(6, len(lots))):
                    self.alike(led_lot(table, others, rules.rest(lot)), led.rest(led_lot(table, others, lot)))
                self.alike(len(needing(rules)), len(needing(led)))
                self.alike(led_lots(table, others, own_rests(rules)), own_rests(led))
                self.is_true(of_rests(others, own_rests(led)) == led)
                self.alike(len(base(rules)), len(base(led)))

    def test_books(self):
        chance = Random(66)
        books = fit_books() + small_barred()[::3]
        for led in all_led(chance, books):
            word, told = possible(led.book)
            self.alike(word, possible(led.other)[0])
            if word == "never":
                continue
            bundles = tuple((led.lot(lot), led.lot(others)) for lot, others in told.bundles)
            self.alike((), broken(led.other, Rules(led.others, bundles)))
            for _ in range(3):
                claims = tuple(chance.sample(all_facts(led.devices), chance.choice((1, 2))))
                turned = tuple(led.fact(claim) for claim in claims[::-1])
                for call in (judged, either):
                    self.alike(call(led.book, claims)[0], call(led.other, turned)[0])
                self.alike(Watch(led.book).judged(claims), Watch(led.other).judged(turned))
            for lot in some_lots(led.devices, chance, 3):
                self.alike(tuple(led.lot(part) for part in comes(led.book, lot)), comes(led.other, led.lot(lot)))
                self.alike(led.lots(ends(led.book, lot)), ends(led.other, led.lot(lot)))
            for call in (sure, outer):
                self.alike(led.lots(call(led.book).rests), call(led.other).rests)
                self.alike(len(call(led.book)), len(call(led.other)))

    def test_watches(self):
        chance = Random(67)
        for led in all_led(chance, fit_books()[::2]):
            watch, other = Watch(led.book), Watch(led.other)
            for name in led.devices[:3]:
                if name in watch.on:
                    continue
                told = watch.coming(name)
                self.alike(led.lots(told), other.coming(led.table[name]))
                came = chance.choice(told)
                try:
                    watch.put(name, came)
                except ValueError as error:
                    self.assertRaises(error.__class__, other.put, led.table[name], led.lot(came))
                    break
                other.put(led.table[name], led.lot(came))
                self.alike(led.lot(watch.on), other.on)


class Promise78(Case):
    def pairs(self):
        """Devices, facts, and more facts that some Rules fit, too."""
        chance = Random(68)
        for devices, facts, found in small_fitting()[::2]:
            told = chance.choice(found)[1]
            so = [fact for fact in all_facts(devices) if so_by(told, fact)]
            yield devices, facts, as_many_as_may_be(facts + tuple(chance.sample(so, min(4, len(so)))))
        for rules, facts in loose_books()[::4]:
            so = [fact for fact in random_facts(SIX, chance, 60) if so_of(rules, fact)]
            yield SIX, facts, as_many_as_may_be(facts + tuple(so[:6]))

    def test_with_facts_more(self):
        chance = Random(69)
        for devices, facts, more in self.pairs():
            book, other = book_of(devices, facts), book_of(devices, more)
            self.alike("within", within(other, book)[0])
            for _ in range(4):
                claims = tuple(chance.sample(all_facts(devices), chance.choice((1, 2))))
                for call in (judged, either):
                    self.assertIn(call(book, claims)[0], ("open", call(other, claims)[0]))
            for lot in some_lots(devices, chance, 2):
                self.assertTrue(has_within(comes(other, lot)[0], comes(book, lot)[0]))
                self.assertTrue(has_within(comes(book, lot)[1], comes(other, lot)[1]))
                self.assertTrue(set(ends(other, lot)) <= set(ends(book, lot)))
                for one in starters(book, lot):
                    self.assertTrue(any(has_within(one, there) for there in starters(other, lot)))
                prices = tuple(chance.randrange(1, 10) for _ in devices)
                self.assertLessEqual(cheapest(other, lot, prices)[0], cheapest(book, lot, prices)[0])
                offers, claim = some_offers(devices, chance, 2), chance.choice(all_facts(devices))
                told, there = trials(book, offers, claim), trials(other, offers, claim)
                if told:
                    self.assertLessEqual(there[0], told[0])

    def test_ends_of_rules_that_fit_stay(self):
        for at, (rules, facts) in enumerate(loose_books()[::6]):
            for lot in some_lots(SIX, Random(at), 3):
                self.assertIn(end(SIX, rules.bundles, lot), ends(book_of(SIX, facts), lot))
        self.assertTrue(small_books())


if __name__ == "__main__":
    unittest.main()
