"""Promises 41, 80 to 82, 84, 86 and 90: what holds over several sections."""

import unittest
from random import Random

from tests.cases import Case
from tests.known import as_many_as_may_be, common, fitting, led_lot, led_lots, loose_books, renamings, small_fitting, some_lots
from tests.known import together
from tests.plain import SIX, all_lots, end, every_rules, has_within, in_sequence, some_bundles
from tests.seen import all_facts, book_of, contrary, great_books, random_facts, renamed, small_books, so_by, so_of, tight_books
from tests.test_comparing import small_pairs
from wakesothers.bases import base, own_rests
from wakesothers.books import Book
from wakesothers.comparing import alike, mend, needless, quarrels, shows_alike, shows_mend, shows_within, within
from wakesothers.errors import TooMany
from wakesothers.fitting import broken, fits, possible, shows_possible
from wakesothers.judging import either, judged, shows_either, shows_judged
from wakesothers.rules import Rules
from wakesothers.starting import blockers, chances, starters
from wakesothers.surely import comes, ends, outer, sure
from wakesothers.ways import differ, shows_differ, shows_way


def word(book, fact):
    return judged(book, (fact,))[0]


def some_fit(book):
    return possible(book)[0] == "rules"


def go(book):
    """How many facts have to go; five stands for more than four."""
    try:
        return len(mend(book)[0])
    except TooMany:
        return 5


def with_device(devices):
    """The devices with a further one, in each place."""
    return [devices[:at] + ("more",) + devices[at:] for at in range(len(devices) + 1)]


def five_devices():
    """Facts of five devices that some Rules fit: the lots of loose books without the last device."""
    found = []
    for rules, facts in loose_books():
        five = SIX[:5]
        told = tuple(fact for fact in facts if "f" not in fact[1] and "f" not in fact[2:])
        found.append((five, told))
    return [case for case in found if some_fit(book_of(*case))]


class Promise41(Case):
    def more_facts(self):
        """Books, and facts more by which some Rules still fit."""
        chance = Random(31)
        for devices, facts, found in small_fitting():
            told = [fact for fact in all_facts(devices) if any(so_by(ends, fact) for _, ends in found)]
            for fact in chance.sample(told, min(3, len(told))):
                more = as_many_as_may_be(facts + (fact,))
                if fact in more:
                    yield book_of(devices, facts), book_of(devices, more)
        for rules, facts in loose_books()[::3]:
            told = [fact for fact in all_facts(SIX) if so_of(rules, fact)]
            more = as_many_as_may_be(facts + tuple(chance.sample(told, 2)))
            yield book_of(SIX, facts), book_of(SIX, more)

    def test_with_a_fact_more(self):
        chance = Random(32)
        for book, more in self.more_facts():
            self.is_true(some_fit(more))
            for lot in some_lots(book.devices, chance, 2):
                self.assertTrue(has_within(comes(more, lot)[0], comes(book, lot)[0]))
                self.assertTrue(has_within(comes(book, lot)[1], comes(more, lot)[1]))
                self.assertTrue(set(ends(more, lot)) <= set(ends(book, lot)))
            self.is_true(sure(book).is_within(sure(more)))
            self.is_true(outer(more).is_within(outer(book)))
            for fact in chance.sample(all_facts(book.devices), 4):
                told = word(book, fact)
                self.assertIn(told, ("open", word(more, fact)))

    def test_by_other_names(self):
        chance = Random(33)
        cases = [(devices, facts) for devices, facts, _ in small_fitting()[::4]] + [(SIX, facts) for _, facts in great_books()[::9]]
        cases += [(SIX, facts) for _, facts in loose_books()[::9]]
        for devices, facts in cases:
            book = book_of(devices, facts)
            for table, others in renamings(devices, chance):
                told = [renamed(table, others, fact) for fact in facts]
                chance.shuffle(told)
                led = book_of(others, told)
                for lot in some_lots(devices, chance, 3):
                    there = led_lot(table, others, lot)
                    self.alike(tuple(led_lot(table, others, part) for part in comes(book, lot)), comes(led, there))
                    self.alike(led_lots(table, others, ends(book, lot)), ends(led, there))
                for call in (sure, outer):
                    self.alike(led_lots(table, others, call(book).rests), call(led).rests)
                    self.alike(len(call(book)), len(call(led)))
                for fact in chance.sample(all_facts(devices), 4):
                    self.alike(word(book, fact), word(led, renamed(table, others, fact)))

    def test_with_a_further_device(self):
        for devices, facts, _ in small_fitting()[::2]:
            book = book_of(devices, facts)
            for more in with_device(devices):
                led = book_of(more, facts)
                self.is_true(some_fit(led))
                for fact in all_facts(devices)[::3]:
                    self.assertIn(word(led, fact), ("open", word(book, fact)))

    def test_two_that_fit(self):
        chance = Random(34)
        for devices, facts, found in small_fitting():
            book = book_of(devices, facts)
            for _ in range(4):
                one, other = chance.choice(found)[0], chance.choice(found)[0]
                self.assertTrue({facts[number][0] for number in broken(book, one & other)} <= {"stirs"})
                self.assertTrue({facts[number][0] for number in broken(book, one | other)} <= {"sleeps"})


class Promise80(Case):
    def cases(self):
        for devices, facts, _ in small_fitting()[::2]:
            yield devices, facts
        yield from five_devices()[::4]

    def test_what_is_sure_was_sure(self):
        chance = Random(35)
        for devices, facts in self.cases():
            book = book_of(devices, facts)
            for more in with_device(devices):
                led = book_of(more, facts)
                for _ in range(3):
                    claims = tuple(chance.sample(all_facts(devices), 2))
                    for call in (judged, either):
                        for some in (claims[:1], claims):
                            self.assertIn(call(led, some)[0], ("open", call(book, some)[0]))
                for lot in some_lots(devices, chance, 3):
                    both = in_sequence(more, lot + ("more",))
                    self.assertTrue(has_within(comes(led, both)[0], comes(led, lot)[0]))
                    self.assertTrue(has_within(comes(book, lot)[0], set(comes(led, lot)[0]) - {"more"}))

    def test_all_that_fit_are_between(self):
        for devices, facts in self.cases():
            for more in with_device(devices)[:2]:
                book = book_of(more, facts)
                found = [possible(book)[1]]
                for fact in all_facts(more)[::7]:
                    told = judged(book, (fact,))
                    found += [rules for rules in told[1:] if told[0] == "open"]
                for rules in found:
                    self.is_true(fits(book, rules))
                    self.is_true(sure(book).is_within(rules))
                    self.is_true(rules.is_within(outer(book)))


class Promise81(Case):
    def check(self, book, chance):
        inner, around = sure(book), outer(book)
        for lot in some_lots(book.devices, chance, 4):
            surely, perhaps = comes(book, lot)
            told = ends(book, lot)
            self.alike(inner.rest(lot), surely)
            self.assertTrue(all(has_within(rest, surely) and has_within(perhaps, rest) for rest in told))
            self.alike(surely, common(book.devices, told))
            self.alike(perhaps, together(book.devices, told))
            self.assertIs(around.stays(lot), told == (lot,))
        for goal in some_lots(book.devices, chance, 1):
            for lot in starters(book, goal):
                self.assertTrue(has_within(inner.rest(lot), goal))
                self.assertTrue(any(has_within(lot, one) for one in chances(book, goal)))
            for lot in blockers(book, goal):
                self.is_true(inner.stays(lot))
                self.assertFalse(has_within(lot, goal))

    def test_small_books(self):
        chance = Random(36)
        for devices, facts, _ in small_fitting():
            self.check(book_of(devices, facts), chance)

    def test_six_devices(self):
        chance = Random(37)
        for _, facts in great_books()[::3] + loose_books()[::3]:
            self.check(book_of(SIX, facts), chance)


class Promise82(Case):
    def both(self):
        """Books, and those with a further device ahead and behind."""
        cases = small_books()[::3] + five_devices()[::6] + [(SIX[:5], facts) for _, facts in small_five()]
        for devices, facts in cases:
            for more in (("more",) + devices, devices + ("more",)):
                yield book_of(devices, facts), book_of(more, facts)

    def test_what_was_possible_is(self):
        for book, led in self.both():
            if some_fit(book):
                self.is_true(some_fit(led))

    def test_what_surely_comes_came(self):
        chance = Random(38)
        for book, led in self.both():
            if some_fit(book):
                for lot in some_lots(book.devices, chance, 3):
                    self.assertTrue(has_within(comes(book, lot)[0], set(comes(led, lot)[0]) - {"more"}))
                self.assertTrue(set(needless(led)) <= set(needless(book)))

    def test_books_within_one_another_were(self):
        many = 0
        for devices, facts, others in small_pairs()[::4]:
            for more in (("more",) + devices, devices + ("more",)):
                if within(book_of(more, facts), book_of(more, others))[0] == "within":
                    self.alike("within", within(book_of(devices, facts), book_of(devices, others))[0])
                    many += 1
        self.assertGreater(many, 60)

    def test_quarrels(self):
        many = 0
        for book, led in self.both():
            if len(book) < 10:
                told = quarrels(book)
                for quarrel in quarrels(led):
                    self.assertTrue(any(set(one) <= set(quarrel) for one in told))
                    many += 1
            self.assertLessEqual(go(led), go(book))
        self.assertGreater(many, 60)


def small_five():
    """Facts of five devices, some of which quarrel."""
    chance = Random(39)
    return [(SIX[:5], random_facts(SIX[:5], chance, 4 + at % 6)) for at in range(30)]


class Promise84(Case):
    def test_by_all_rules_that_fit_each(self):
        for devices, facts, others in small_pairs()[::3]:
            one, other = book_of(devices, facts), book_of(devices, others)
            mine = [rules.rests for rules, _ in fitting(devices, facts)]
            yours = [rules.rests for rules, _ in fitting(devices, others)]
            self.assertIs(set(mine) <= set(yours), within(one, other)[0] == "within")
            if yours:
                self.assertIs(set(mine) == set(yours), alike(one, other)[0] == "alike")
                self.assertIs(set(yours) <= set(mine), within(other, one)[0] == "within")
            self.check_facts(other, fitting(devices, ()))

    def check_facts(self, book, every):
        rows = [[so_by(told, fact) for fact in book.facts] for _, told in every]
        if len(book) <= 12:
            told = quarrels(book)
            for quarrel in told:
                self.assertFalse(any(all(row[number] for number in quarrel) for row in rows))
                for left in quarrel:
                    self.assertTrue(any(all(row[number] for number in quarrel if number != left) for row in rows))
            if go(book) < 5:
                gone = mend(book)[0]
                self.assertTrue(all(set(gone) & set(quarrel) for quarrel in told))
                self.assertEqual(len(gone), min(row.count(False) for row in rows))

    def test_each_quarrel_has_one_of_what_mend_lets_go(self):
        for book in [book_of(*case) for case in small_five()] + tight_books():
            told = quarrels(book)
            self.assertIs(told == (), go(book) == 0)
            if go(book) < 5:
                gone = mend(book)[0]
                self.assertTrue(all(set(gone) & set(quarrel) for quarrel in told))
                self.assertTrue(all(any(number in quarrel for quarrel in told) for number in gone))

    def test_both_books_together(self):
        many = 0
        for devices, facts, others in small_pairs()[::2]:
            if len(as_many_as_may_be(facts + others)) == len(set(facts + others)):
                one, other = book_of(devices, facts), book_of(devices, others)
                if some_fit(one | other):
                    self.alike(["within", "within"], [within(one | other, one)[0], within(one | other, other)[0]])
                    many += 1
        for (_, facts), (_, more) in zip(great_books(), loose_books()):
            one, other = book_of(SIX, facts[:20]), book_of(SIX, more)
            self.alike(["within", "within"], [within(one | other, one)[0], within(one | other, other)[0]])
        self.assertGreater(many, 200)


class Promise86(Case):
    def told_of(self, rules):
        """The facts that leave just these Rules, as many as a book may have, or None."""
        stays = tuple(("stays", lot) for lot in own_rests(rules))
        wakes = tuple(("wakes", lot, name) for lot, others in base(rules).bundles for name in others)
        return stays + wakes if len(stays) <= 8 and len(wakes) <= 8 else None

    def cases(self):
        every = [rules for devices in (("a",), ("b", "a"), ("pump", "fan", "lamp")) for rules in every_rules(devices)]
        every += [Rules(SIX[: 4 + seed % 3], some_bundles(SIX[: 4 + seed % 3], 2 + seed % 3, seed)) for seed in range(60)]
        found = [(rules, self.told_of(rules)) for rules in every]
        return [case for case in found if case[1] is not None]

    def test_just_these_rules_fit(self):
        cases = self.cases()
        self.assertGreater(len([rules for rules, _ in cases if len(rules.devices) > 3]), 10)
        for at, (rules, facts) in enumerate(cases):
            book = book_of(rules.devices, facts)
            self.is_true(fits(book, rules))
            self.is_true(sure(book) == rules)
            self.is_true(outer(book) == rules)
            self.alike(base(rules).bundles, sure(book).bundles)
            self.alike(base(rules).bundles, outer(book).bundles)
            for lot in all_lots(rules.devices):
                self.alike((end(rules.devices, rules.bundles, lot),), ends(book, lot))
            for fact in Random(at).sample(all_facts(rules.devices), 4):
                self.alike("always" if so_of(rules, fact) else "never", word(book, fact))

    def test_without_one_of_the_facts_others_fit_too(self):
        for rules, facts in self.cases():
            book = book_of(rules.devices, facts)
            for number, fact in enumerate(facts):
                fewer = book.untold(number)
                # What comes of the other facts wakes is no loss: of a > b and b > c comes a > c.
                comes_anyway = fact[0] == "wakes" and fact[2] in comes(fewer, fact[1])[0]
                self.assertIs(not comes_anyway, outer(fewer) != sure(fewer))
                self.assertIs(comes_anyway, number in needless(book))
            self.assertFalse(any(facts[number][0] == "stays" for number in needless(book)))

    def test_without_the_facts_of_a_bundle_others_fit_too(self):
        for rules, facts in self.cases():
            for lot, _ in base(rules).bundles:
                fewer = book_of(rules.devices, [fact for fact in facts if fact[:2] != ("wakes", lot)])
                self.is_false(outer(fewer) == sure(fewer))


class Promise90(Case):
    def strange(self, devices):
        """Rules of other devices, and the very same Rules in another sequence of the devices."""
        others = [devices[::-1], devices[1:], (devices + ("more",))[-6:], devices[:-1] + ("fox",), ("fox",)]
        return [Rules(other) for other in others] + [Rules(("fox",), (((), ("fox",)),))]

    def test_of_no_shows_function(self):
        for devices, facts, _ in small_fitting()[::6] + [(SIX, facts, None) for _, facts in loose_books()[::9]]:
            if len(devices) < 2:
                continue
            book = book_of(devices, facts)
            claims = (("stays", devices[:1]),)
            mine = possible(book)[1]
            for rules in self.strange(devices):
                self.is_false(shows_possible(book, ("rules", rules)))
                for one, other in ((rules, mine), (mine, rules), (rules, rules)):
                    self.is_false(shows_judged(book, claims, ("open", one, other)))
                    self.is_false(shows_either(book, claims, ("open", one, other)))
                self.is_false(shows_mend(book, ((), rules)))
                for other in (book, book_of(devices, ()), book_of(devices, [contrary(fact) for fact in facts[:1]])):
                    self.is_false(shows_within(book, other, ("parts", rules)))
                    if some_fit(other):
                        self.is_false(shows_alike(book, other, ("parts", rules)))
                    self.is_false(shows_within(book, other, ("within", (rules,))))
                self.is_false(shows_way(mine, (), devices[0], ("wakes", rules)))
                self.is_false(shows_differ(mine, mine, ("alike", rules)))
                self.assertIn(differ(mine, mine), (("alike",),))

    def test_where_rules_of_these_devices_are_taken(self):
        book = Book("devices a b\nsleeps a > b")
        told = judged(book, (("stays", ("a",)), ("stays", ("b",))))
        self.is_true(shows_judged(book, (("stays", ("a",)), ("stays", ("b",))), told))
        self.is_true(shows_possible(book, ("rules", Rules(("a", "b")))))
        self.is_false(shows_possible(book, ("rules", Rules(("b", "a")))))
        self.is_true(shows_within(book, Book("devices a b\nstirs b"), ("parts", Rules(("a", "b")))))
        self.is_false(shows_within(book, Book("devices a b\nstirs b"), ("parts", Rules(("b", "a")))))
        self.is_true(shows_alike(book, Book("devices a b\nstirs b"), ("parts", Rules(("a", "b")))))
        self.is_false(shows_alike(book, Book("devices a b\nstirs b"), ("parts", Rules(("b", "a")))))
        self.is_true(shows_mend(book, ((), Rules(("a", "b")))))
        self.is_false(shows_mend(book, ((), Rules(("b", "a")))))


if __name__ == "__main__":
    unittest.main()
