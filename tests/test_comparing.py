"""Promises 48 to 56, and 87: books beside one another, and the facts of a book beside one another."""

import unittest
from functools import cache
from itertools import combinations
from random import Random

from tests.cases import Case
from tests.known import as_many_as_may_be, fitting, loose_books, random_contraries, small_barred, small_fitting, some_fit
from tests.plain import SIX, every_rules, nested, odd_values
from tests.seen import SMALL, all_facts, all_so, are_fitting, are_trees, book_of, contraries, contrary, deep_cases, great_books
from tests.seen import is_integer, random_facts, shape, small_books, so_by, tight_books
from tests.test_fitting import other_trees
from wakesothers.books import Book
from wakesothers.comparing import alike, mend, needless, quarrels, shows_alike, shows_mend, shows_within, within
from wakesothers.errors import NoRules, OtherDevices, TooMany
from wakesothers.fitting import fits, possible
from wakesothers.judging import judged
from wakesothers.rules import Rules

THREE = ("fan", "lamp", "pump")
BOOK = Book("devices fan lamp pump\nwakes fan lamp > pump\nstays lamp\nstirs fan\nsleeps pump > lamp")
BARRED = BOOK.told(("stays", ("fan",)))
PUMPS = ("wakes", ("fan",), "pump")


def is_form(value, word, many):
    return isinstance(value, tuple) and len(value) == many and value[0] == word


def fits_first_only(devices, facts, others, value):
    return are_fitting(devices, facts, value) and not all_so(value, others)


def is_within(devices, facts, others, value):
    """A plain reading of what within tells of two books that have these facts."""
    if is_form(value, "within", 2):
        return are_trees(devices, facts, contraries(others), value[1])
    return is_form(value, "parts", 2) and fits_first_only(devices, facts, others, value[1])


def is_alike(devices, facts, others, value):
    if is_form(value, "alike", 3):
        there = are_trees(devices, facts, contraries(others), value[1])
        return there and are_trees(devices, others, contraries(facts), value[2])
    if not is_form(value, "parts", 2):
        return False
    return fits_first_only(devices, facts, others, value[1]) or fits_first_only(devices, others, facts, value[1])


def is_mend(devices, facts, fewest, value):
    """A plain reading of what mend tells of a book with these facts, of which so many have to go."""
    if not isinstance(value, tuple) or len(value) != 2 or not isinstance(value[0], tuple) or len(value[0]) != fewest:
        return False
    numbers = value[0]
    if not all(is_integer(number) and 0 <= number < len(facts) for number in numbers):
        return False
    if any(one >= other for one, other in zip(numbers, numbers[1:])):
        return False
    return are_fitting(devices, tuple(fact for at, fact in enumerate(facts) if at not in numbers), value[1])


@cache
def small_pairs():
    """Devices, facts that some Rules fit, and other facts of the same devices."""
    chance = Random(21)
    others = {devices: [facts for told, facts in small_books() if told == devices] for devices in SMALL}
    found = []
    for devices, facts, rules in small_fitting():
        found.append((devices, facts, facts))
        found.append((devices, facts, facts[:-1]))
        found.append((devices, facts, as_many_as_may_be(facts[::-1] + random_facts(devices, chance, 1))))
        # What is so by all Rules that fit says nothing new.
        known = [fact for fact in all_facts(devices) if all(so_by(told, fact) for _, told in rules)]
        found.append((devices, facts, as_many_as_may_be(chance.sample(known, min(4, len(known))))))
        some = chance.sample(known, min(9, len(known)))
        found.append((devices, facts, as_many_as_may_be(some + list(facts))))
        found.append((devices, facts, chance.choice(others[devices])))
    return found


@cache
def great_pairs():
    """Facts of the greatest books, and others."""
    chance = Random(22)
    found = []
    for at, (_, facts) in enumerate(great_books()):
        loose = loose_books()[at][1]
        found += [(facts, loose), (loose, facts), (facts, facts[::-1])]
        known = [fact for fact in chance.sample(all_facts(SIX), 60) if judged(book_of(SIX, facts), (fact,))[0] == "always"]
        more = as_many_as_may_be(known + list(loose))
        found += [(facts, more), (more, facts), (facts, as_many_as_may_be(chance.sample(all_facts(SIX), 20)))]
    return [(one, other) for one, other in found if some_fit(SIX, one)]


def fewest_broken(devices, facts):
    return min(len([fact for fact in facts if not so_by(told, fact)]) for _, told in fitting(devices, ()))


def plain_quarrels(fit, many):
    """All quarrels of so many facts, if fit tells of numbers whether some Rules fit."""
    found = []
    for size in range(many + 1):
        for numbers in combinations(range(many), size):
            if not any(set(other) <= set(numbers) for other in found) and not fit(numbers):
                found.append(numbers)
    return tuple(sorted(found))


def no_books_like_it():
    """Values that are no Books of the devices fan, lamp, pump."""
    rules = Rules(THREE)
    return odd_values() + [
        rules, BOOK.text, BOOK.facts, (BOOK,), [BOOK], {"book": BOOK}, THREE, Book("devices fan pump lamp"), Book("devices fan lamp"),
        Book("devices fan lamp pump fox"), Book("devices a"), Book("devices fan lamp pumps"), Book("devices a b c d e f"), ("Book", BOOK.text),
    ]


class Pairs(Case):
    """What promises 48 to 51 ask of within and alike, of two books."""

    def check_within(self, devices, facts, others, word=None):
        one, other = book_of(devices, facts), book_of(devices, others)
        told = within(one, other)
        self.is_true(is_within(devices, facts, others, told), (facts, others))
        self.is_true(shows_within(one, other, told))
        self.alike(shape(told), shape(within(other=Book(other.text), one=Book(one.text))))
        if word is not None:
            self.alike(word, told[0])
        return told

    def check_alike(self, devices, facts, others, word=None):
        one, other = book_of(devices, facts), book_of(devices, others)
        told = alike(one, other)
        self.is_true(is_alike(devices, facts, others, told), (facts, others))
        self.is_true(shows_alike(one, other, told))
        self.alike(shape(told), shape(alike(other=Book(other.text), one=Book(one.text))))
        if word is not None:
            self.alike(word, told[0])
        return told


class Promise48(Pairs):
    def test_small_books(self):
        words = []
        for devices, facts, others in small_pairs():
            inside = all(so_by(told, fact) for _, told in fitting(devices, facts) for fact in others)
            words.append(self.check_within(devices, facts, others, "within" if inside else "parts")[0])
        self.assertGreater(min(words.count("within"), words.count("parts")), 200)

    def test_six_devices(self):
        words = [self.check_within(SIX, facts, others)[0] for facts, others in great_pairs()]
        self.assertGreater(min(words.count("within"), words.count("parts")), 60)

    def test_five_facts_stirs_are_forked(self):
        for facts, more in deep_cases()[:6]:
            # By the three that are told and one more, the other one is not so.
            five = facts[3:] + facts[:2] + more[:1]
            others = (contrary(facts[2]), contrary(more[1]))
            told = [fact for fact in others if judged(book_of(SIX, five), (fact,))[0] == "always"]
            self.check_within(SIX, five, tuple(told), "within")
            self.check_within(SIX, five, others)

    def test_no_rules(self):
        for devices, facts in small_barred():
            book = book_of(devices, facts)
            for other in (book, book_of(devices, ()), book_of(devices, facts[:1])):
                self.refused(NoRules, book, within, book, other)
                self.refused(NoRules, book, within, other=other, one=book)
                for value in (None, ("within", ()), ("parts", Rules(devices))):
                    self.refused(NoRules, book, shows_within, book, other, value)

    def test_other_may_be_a_book_that_no_rules_fit(self):
        for devices, facts in small_barred()[::2]:
            told = self.check_within(devices, (), facts, "parts")
            self.is_true(fits(book_of(devices, ()), told[1]))
        for book in tight_books():
            self.check_within(SIX, book.facts[1:], book.facts, "parts")

    def test_books_without_facts(self):
        for devices in SMALL + (SIX,):
            self.alike(("within", ()), within(book_of(devices, ()), book_of(devices, ())))
            self.alike(("within", ()), within(book_of(devices, (("stays", ()),)), book_of(devices, ())))
            self.alike("parts", within(book_of(devices, ()), book_of(devices, (("stays", ()),)))[0])
            self.alike("within", within(book_of(devices, ()), book_of(devices, (("stays", devices),)))[0])

    def test_the_example(self):
        self.alike(["within", "parts"], [within(BOOK, BOOK.untold(1))[0], within(BOOK.untold(1), BOOK)[0]])


class Promise49(Case):
    def shown(self, devices, facts, others, value):
        one, other = book_of(devices, facts), book_of(devices, others)
        self.assertIs(is_within(devices, facts, others, value), shows_within(one, other, value), (facts, others, value))

    def test_what_is_like_right_results(self):
        chance = Random(23)
        for devices, facts, others in small_pairs()[::9]:
            told = within(book_of(devices, facts), book_of(devices, others))
            values = changed(told, facts, devices)
            for value in chance.sample(values, min(60, len(values))):
                self.shown(devices, facts, others, value)

    def test_what_is_like_right_results_of_the_greatest_books(self):
        chance = Random(24)
        for facts, others in great_pairs()[::12]:
            told = within(book_of(SIX, facts), book_of(SIX, others))
            for value in chance.sample(changed(told, facts, SIX), 20):
                self.shown(SIX, facts, others, value)

    def test_all_rules(self):
        right = 0
        for devices, facts, others in small_pairs()[1::5]:
            for rules in every_rules(devices)[::4] if len(devices) == 3 else every_rules(devices):
                self.shown(devices, facts, others, ("parts", rules))
                right += fits_first_only(devices, facts, others, rules)
        self.assertGreater(right, 60)

    def test_any_value(self):
        other = BOOK.untold(1)
        for value in wrong_results():
            self.is_false(shows_within(BOOK, other, value), value)
            self.is_false(shows_within(value=value, other=BOOK, one=other), value)

    def test_by_hand(self):
        one, other = Book("devices a b c\nwakes a > b\nwakes b > c"), Book("devices a b c\nwakes a > c\nstirs b")
        leaf, more = ("leaf", 2, ((0, "b"), (1, "c"))), ("leaf", 2, ((1, "c"),))
        self.is_true(shows_within(one, other, ("within", (leaf, more))))
        for trees in ((more, leaf), (leaf,), (leaf, more, more), [leaf, more], (leaf, list(more)), (leaf, leaf), (), None, (leaf, None)):
            self.is_false(shows_within(one, other, ("within", trees)))
        self.is_false(shows_within(one, other, ["within", (leaf, more)]))
        self.is_false(shows_within(one, other, ("within", (leaf, more), ())))
        self.is_false(shows_within(one, other, ("alike", (leaf, more))))
        # True is not 1.
        self.is_false(shows_within(one, other, ("within", (leaf, ("leaf", 2, ((True, "c"),))))))
        self.is_false(shows_within(one, other, ("within", (("leaf", 2, ((False, "b"), (1, "c"))), more))))
        self.is_false(shows_within(one, other, ("parts", Rules(("a", "b", "c")))))


def changed(told, facts, devices):
    """Values that are like what within or alike told, but for one place."""
    words = ("within", "parts", "alike", "WITHIN", "", None, True)
    found = [told, list(told), told + ((),), told[:1], told[::-1], (told,), told[1], dict([told[:2]])]
    found += [(word,) + told[1:] for word in words] + [(word,) + told[1:2] for word in words]
    if told[0] == "parts":
        others = [Rules(devices), Rules(devices, (((), devices),)), Rules(devices[:-1] + ("fox",)), told[1].bundles, [told[1]], (told[1],), None]
        return found + [("parts", other) for other in others]
    for at in range(1, len(told)):
        for trees in other_tuples(told[at], facts, devices):
            found.append(told[:at] + (trees,) + told[at + 1 :])
    return found + [("alike", told[-1], told[1]), ("alike", told[1], told[1])]


def other_tuples(trees, facts, devices):
    """Tuples that are like this one of trees, but for one place."""
    found = [list(trees), trees[::-1], trees + trees[:1], trees[1:], (), None, (trees,), dict.fromkeys(trees)]
    for at, tree in enumerate(trees):
        for other in other_trees(tree, facts + (("stays", ()),), devices)[::5] + [None]:
            found.append(trees[:at] + (other,) + trees[at + 1 :])
    return found


def wrong_results():
    """Values that are no results of within, alike or mend, whatever the books are, of fan, lamp, pump."""
    others = [Rules(("fan", "lamp")), Rules(THREE[::-1]), Rules(("a", "b", "c")), Rules(("a",))]
    found = odd_values() + [BOOK, (BOOK,), Rules(THREE), BOOK.text, nested(("within", ()))]
    for word in ("within", "parts", "alike", "WITHIN", None, True, ()):
        found += [(word, value) for value in odd_values() if not isinstance(value, Rules) and value != ()]
        found += [(word,), word, (word, None, None), [word, ()], (word, BOOK), (word, BOOK.facts), {word: ()}, (word, [Rules(THREE)])]
        found += [(word, rules) for rules in others] + [(word, rules, ()) for rules in others] + [(word, (), rules) for rules in others]
        found += [((word,), ()), (word, (Rules(THREE),)), (word, word), (word, (), [])]
    return found


class Promise50(Pairs):
    def test_small_books(self):
        words = []
        for devices, facts, others in small_pairs():
            same = [shape(rules) for rules, _ in fitting(devices, facts)] == [shape(rules) for rules, _ in fitting(devices, others)]
            if fitting(devices, others):
                words.append(self.check_alike(devices, facts, others, "alike" if same else "parts")[0])
        self.assertGreater(min(words.count("alike"), words.count("parts")), 200)

    def test_six_devices(self):
        words = []
        for facts, others in great_pairs():
            if some_fit(SIX, others):
                words.append(self.check_alike(SIX, facts, others)[0])
        self.assertGreater(min(words.count("alike"), words.count("parts")), 40)

    def test_either_may_be_within_the_other(self):
        less = BOOK.untold(1)
        self.alike("parts", alike(BOOK, less)[0])
        self.is_true(fits(less, alike(BOOK, less)[1]))
        self.is_false(fits(BOOK, alike(less, BOOK)[1]))

    def test_no_rules(self):
        for devices, facts in small_barred():
            book = book_of(devices, facts)
            for other in (book_of(devices, ()), book_of(devices, (("stays", devices),))):
                for call in (alike, lambda one, other: shows_alike(one, other, None), lambda one, other: shows_alike(one, other, ("alike", (), ()))):
                    self.refused(NoRules, book, call, book, other)
                    self.refused(NoRules, book, call, other, book)
        # If none fit both, it is the first one that is told.
        more = BARRED.told(("stays", ()))
        self.refused(NoRules, BARRED, alike, BARRED, more)
        self.refused(NoRules, more, alike, more, BARRED)
        self.refused(NoRules, more, alike, other=BARRED, one=more)
        self.refused(NoRules, more, shows_alike, more, BARRED, ("alike", (), ()))

    def test_books_without_facts(self):
        for devices in SMALL + (SIX,):
            self.alike(("alike", (), ()), alike(book_of(devices, ()), book_of(devices, ())))
            told = alike(book_of(devices, ()), book_of(devices, (("stays", devices),)))
            self.alike(("alike", ()), (told[0], told[2]))


class Promise51(Case):
    def shown(self, devices, facts, others, value):
        one, other = book_of(devices, facts), book_of(devices, others)
        self.assertIs(is_alike(devices, facts, others, value), shows_alike(one, other, value), (facts, others, value))

    def test_what_is_like_right_results(self):
        chance = Random(25)
        for devices, facts, others in [case for case in small_pairs() if fitting(case[0], case[2])][::9]:
            told = alike(book_of(devices, facts), book_of(devices, others))
            values = changed(told, facts, devices)
            for value in chance.sample(values, min(60, len(values))):
                self.shown(devices, facts, others, value)

    def test_what_is_like_right_results_of_the_greatest_books(self):
        chance = Random(26)
        for facts, others in [case for case in great_pairs() if some_fit(SIX, case[1])][::12]:
            told = alike(book_of(SIX, facts), book_of(SIX, others))
            for value in chance.sample(changed(told, facts, SIX), 20):
                self.shown(SIX, facts, others, value)

    def test_all_rules(self):
        right = 0
        for devices, facts, others in [case for case in small_pairs() if fitting(case[0], case[2])][1::5]:
            for rules in every_rules(devices)[::4] if len(devices) == 3 else every_rules(devices):
                self.shown(devices, facts, others, ("parts", rules))
                right += is_alike(devices, facts, others, ("parts", rules))
        self.assertGreater(right, 60)

    def test_any_value(self):
        other = BOOK.untold(1)
        for value in wrong_results():
            self.is_false(shows_alike(BOOK, other, value), value)
            self.is_false(shows_alike(value=value, other=BOOK, one=other), value)

    def test_trees_of_both_ways(self):
        one, other = Book("devices a b\nwakes a > b"), Book("devices a b\nstirs a")
        there, back = (("leaf", 1, ((0, "b"),)),), (("fork", 0, (("leaf", 1, ((0, "b"),)),)),)
        self.is_true(shows_alike(one, other, ("alike", there, back)))
        self.is_true(shows_alike(other, one, ("alike", back, there)))
        for value in (("alike", back, there), ("alike", there, there), ("alike", back, back), ("alike", there), ("alike", (), ()), ("alike",
            there, ())):
            self.is_false(shows_alike(one, other, value))


class Promise52(Case):
    def test_small_books(self):
        words = []
        for devices, facts, found in small_fitting():
            wanted = []
            for number in range(len(facts)):
                fewer = facts[:number] + facts[number + 1 :]
                if len(fitting(devices, fewer)) == len(found):
                    wanted.append(number)
            self.alike(tuple(wanted), needless(book_of(devices, facts)))
            words += [number in wanted for number in range(len(facts))]
        self.assertGreater(min(words.count(True), words.count(False)), 200)

    def test_six_devices(self):
        words = []
        for _, facts in great_books()[::2] + loose_books()[::2]:
            book = book_of(SIX, facts)
            told = needless(book)
            for number, fact in enumerate(facts):
                wanted = not some_fit(SIX, facts[:number] + facts[number + 1 :] + (contrary(fact),))
                self.assertIs(wanted, number in told)
                self.assertIs(wanted, judged(book.untold(number), (fact,))[0] == "always")
                words.append(wanted)
            self.alike(tuple(sorted(set(told))), told)
        self.assertGreater(min(words.count(True), words.count(False)), 100)

    def test_each_by_itself(self):
        # Each of both follows of the other one, and so neither is needed; but both together are.
        self.alike((0, 1), needless(Book("devices a b\nwakes a > b\nstirs a")))
        self.alike((0, 2, 4), needless(BOOK.told(PUMPS)))
        self.alike((0,), needless(Book("devices a\nstays a")))
        self.alike((), needless(Book("devices a b")))
        self.alike((2,), needless(Book("devices a b c\nwakes a > b\nwakes b > c\nwakes a > c")))

    def test_no_rules(self):
        for book in [book_of(devices, facts) for devices, facts in small_barred()] + tight_books():
            self.refused(NoRules, book, needless, book)
            self.refused(NoRules, book, needless, book=book)


class Promise53(Case):
    def check(self, devices, facts, fit):
        book = book_of(devices, facts)
        told = quarrels(book)
        self.alike(plain_quarrels(fit, len(facts)), told)
        self.assertIs(told == (), possible(book)[0] == "rules")
        return told

    def test_small_books(self):
        many = []
        for devices, facts in small_books():
            told = [[so_by(ends, fact) for fact in facts] for _, ends in fitting(devices, ())]
            if len(facts) <= 12:
                fit = lambda numbers: any(all(row[number] for number in numbers) for row in told)
                many.append(len(self.check(devices, facts, fit)))
        self.assertGreater(len([one for one in many if one > 1]), 40)

    def test_books_of_twelve_facts(self):
        many = []
        for seed in range(8):
            chance = Random(seed)
            devices = (SIX[:3], SIX[:4])[seed % 2]
            facts = as_many_as_may_be(chance.sample(all_facts(devices), 30))[:12]
            self.assertEqual(12, len(facts))
            fit = lambda numbers: some_fit(devices, tuple(facts[number] for number in numbers))
            many += [len(told) for told in self.check(devices, facts, fit)]
        self.assertGreater(len(set(many)), 3)

    def test_six_devices(self):
        found = 0
        for at, (_, facts) in enumerate(great_books()[::2]):
            chance = Random(at)
            twelve = as_many_as_may_be(random_contraries(chance.sample(facts, 12), chance, 1 + at % 5))
            told = quarrels(book_of(SIX, twelve))
            self.alike(tuple(sorted(told)), told)
            for quarrel in told:
                self.assertFalse(some_fit(SIX, tuple(twelve[number] for number in quarrel)))
                for left in quarrel:
                    self.assertTrue(some_fit(SIX, tuple(twelve[number] for number in quarrel if number != left)))
            for _ in range(40):
                some = sorted(chance.sample(range(len(twelve)), chance.randrange(len(twelve) + 1)))
                quarrelling = any(set(quarrel) <= set(some) for quarrel in told)
                self.assertIs(quarrelling, not some_fit(SIX, tuple(twelve[number] for number in some)))
            found += len(told)
        self.assertGreater(found, 20)

    def test_all_facts_of_a_book_quarrel(self):
        for book in tight_books():
            self.alike((tuple(range(len(book))),), quarrels(book))
            self.alike((), quarrels(book.untold(0)))
            self.alike((tuple(range(len(book))),), quarrels(book.told(("stays", SIX))))

    def test_by_hand(self):
        self.alike(((2, 4),), quarrels(BARRED))
        self.alike((), quarrels(BOOK))
        self.alike((), quarrels(Book("devices a b")))
        self.alike(((0,),), quarrels(Book("devices a\nstirs a")))
        self.alike(((0,), (1, 2)), quarrels(Book("devices a b\nstirs a b\nstirs b\nstays b")))
        text = "devices a b c\nstirs a\nsleeps a > c\nsleeps a > b\nstays a\nwakes b > c"
        self.alike(((0, 1, 2), (0, 1, 4), (0, 3)), quarrels(Book(text)))

    def test_twelve_facts_and_thirteen(self):
        facts = [("stays", lot) for lot in ((), ("a",), ("b",), ("c",), ("d",), ("e",))]
        facts += [("wakes", ("a", "b"), name) for name in "cdef"] + [("sleeps", ("e", "f"), name) for name in "abcd"]
        self.alike((), quarrels(book_of(SIX, facts[:12])))
        self.refused(TooMany, 12, quarrels, book_of(SIX, facts[:13]))
        self.refused(TooMany, 12, quarrels, book=book_of(SIX, facts[:14]))
        barred = facts[:11] + [("stirs", ("a",))]
        self.alike(((1, 11),), quarrels(book_of(SIX, barred)))
        self.refused(TooMany, 12, quarrels, book_of(SIX, barred + [("sleeps", ("a", "b"), "c")]))
        self.refused(TooMany, 12, quarrels, book_of(SIX, great_books()[0][1]))


class Promise54And55(Case):
    def check(self, devices, facts, fewest):
        book = book_of(devices, facts)
        if fewest > 4:
            self.refused(TooMany, 4, mend, book)
            for value in (None, (), ((), Rules(devices)), (tuple(range(5)), Rules(devices)), [((), Rules(devices))]):
                self.refused(TooMany, 4, shows_mend, book, value)
            return None
        told = mend(book)
        self.is_true(is_mend(devices, facts, fewest, told), (facts, told))
        self.is_true(shows_mend(book, told))
        self.alike(shape(told), shape(mend(book=Book(book.text))))
        self.assertIs(told[0] == (), possible(book)[0] == "rules")
        return told

    def test_small_books(self):
        many = []
        chance = Random(27)
        for devices, facts in small_books():
            self.check(devices, facts, fewest_broken(devices, facts))
        for at in range(60):
            devices = SMALL[2]
            facts = as_many_as_may_be(chance.sample(all_facts(devices), 4 + at % 14))
            many.append(fewest_broken(devices, facts))
            self.check(devices, facts, many[-1])
        self.assertEqual({0, 1, 2, 3, 4, 5}, set(min(one, 5) for one in many))

    def test_six_devices(self):
        many = []
        for at, (_, facts) in enumerate(great_books()[::3]):
            told = random_contraries(facts, Random(at), 1 + at % 3)
            book = book_of(SIX, told)
            fewest = min(len(mend(book)[0]), 5)
            for size in range(min(fewest, 3)):
                for gone in combinations(range(len(told)), size):
                    self.assertFalse(some_fit(SIX, tuple(fact for number, fact in enumerate(told) if number not in gone)))
            self.check(SIX, told, fewest)
            many.append(fewest)
        self.assertTrue({0, 1, 2} <= set(many))

    def test_one_of_facts_that_quarrel_all_together(self):
        for book in tight_books():
            self.check(SIX, book.facts, 1)
            for number in range(len(book)):
                told = ((number,), possible(book.untold(number))[1])
                self.is_true(shows_mend(book, told))

    def test_what_is_like_right_results(self):
        chance = Random(28)
        right = 0
        for devices, facts in small_books()[::5]:
            book = book_of(devices, facts)
            fewest = fewest_broken(devices, facts)
            if fewest > 4:
                continue
            told = mend(book)
            rules = [one for one, _ in chance.sample(fitting(devices, ()), min(5, len(fitting(devices, ()))))]
            numbers = [told[0], told[0][::-1], told[0] + told[0][:1], told[0][1:], list(told[0]), (0,), (True,), (False,), (0, 1), (), (None,)]
            numbers += [tuple(range(fewest)), tuple(range(len(facts))), (len(facts),), (-1,), (-1, 0), ("0",), 0, None, {0: 0}, ((),)]
            numbers += list(combinations(range(len(facts)), fewest))
            for some in numbers:
                for one in rules + [told[1], None, told[1].bundles, (told[1],), Rules(devices[:-1] + ("fox",)), Rules(devices + ("fox",))]:
                    value = (some, one)
                    self.assertIs(is_mend(devices, facts, fewest, value), shows_mend(book, value), (facts, value))
                    right += shows_mend(book, value)
            for value in (list(told), told[::-1], told + ((),), (told,), told[:1], told[0], told[1], [told], {told[0]: told[1]}):
                self.is_false(shows_mend(book, value))
        self.assertGreater(right, 300)

    def test_any_value(self):
        for book in (BOOK, BARRED):
            for value in wrong_results():
                self.is_false(shows_mend(book, value), value)
                self.is_false(shows_mend(value=value, book=book), value)

    def test_true_is_not_one(self):
        book = Book("devices a b\nsleeps a > b\nwakes a > b")
        one, other = Rules(("a", "b")), Rules(("a", "b"), ((("a",), ("b",)),))
        self.is_true(shows_mend(book, ((1,), one)))
        self.is_true(shows_mend(book, ((0,), other)))
        for value in (((True,), one), ((False,), other), ((1,), other), ((0,), one), ([1], one), ((1, 1), one), ((0, 1), one), ((1.0,), one)):
            self.is_false(shows_mend(book, value))


class Promise56(Case):
    def test_other_devices(self):
        for value in no_books_like_it():
            for one in (BOOK, BARRED):
                for call in (within, alike):
                    self.refused(OtherDevices, value, call, one, value)
                    self.refused(OtherDevices, value, call, other=value, one=one)
                for call in (shows_within, shows_alike):
                    for shown in (None, ("within", ()), ("alike", (), ()), ("parts", Rules(THREE))):
                        self.refused(OtherDevices, value, call, one, value, shown)
                        self.refused(OtherDevices, value, call, value=shown, other=value, one=one)

    def test_other_devices_come_ahead_of_no_rules(self):
        for other in (Book("devices a\nstirs a"), Book("devices pump lamp fan\nstirs pump lamp fan")):
            for call in (within, alike):
                self.refused(OtherDevices, other, call, BARRED, other)
                self.refused(OtherDevices, BARRED, call, other, BARRED)

    def test_no_rules(self):
        for call in (within, alike):
            self.refused(NoRules, BARRED, call, BARRED, BOOK)
        self.refused(NoRules, BARRED, alike, BOOK, BARRED)
        self.assertEqual("parts", within(BOOK, BARRED)[0])
        self.refused(NoRules, BARRED, shows_within, BARRED, BOOK, None)
        self.refused(NoRules, BARRED, shows_alike, BOOK, BARRED, None)
        self.is_false(shows_within(BOOK, BARRED, None))
        self.refused(NoRules, BARRED, needless, BARRED)


class Promise87(Case):
    def pairs(self, many):
        """A book in which so many pairs of facts quarrel, and nothing else does."""
        facts = [("stays", ("a",)), ("wakes", ("a",), "b"), ("stays", ("b",)), ("stirs", ("b",)), ("wakes", ("c",), "d"), ("sleeps", ("c",), "d")]
        facts += [("stays", ("d",)), ("stirs", ("d",)), ("sleeps", ("e",), "f"), ("wakes", ("e",), "f"), ("stays", ("f",)), ("wakes", ("f",), "e")]
        return tuple(facts[: 2 * many])

    def test_pairs_that_quarrel(self):
        for many in range(6):
            facts = self.pairs(many)
            for told in (facts, facts[::-1], (("stays", SIX),) + facts):
                first = len(told) - len(facts)
                book = book_of(SIX, told)
                self.alike(tuple((at, at + 1) for at in range(first, len(told), 2)), quarrels(book))
                if many == 5:
                    self.refused(TooMany, 4, mend, book)
                    self.refused(TooMany, 4, shows_mend, book, (tuple(range(0, 10, 2)), Rules(SIX)))
                    continue
                numbers, rules = mend(book)
                self.assertEqual([at // 2 for at in range(0, 2 * many, 2)], [(number - first) // 2 for number in numbers])
                self.is_true(is_mend(SIX, told, many, (numbers, rules)))
                self.is_true(shows_mend(book, (numbers, rules)))

    def test_any_one_of_each_pair_may_go(self):
        facts = self.pairs(4)
        book = book_of(SIX, facts)
        for choice in range(16):
            gone = tuple(2 * at + (choice >> at & 1) for at in range(4))
            left = possible(book_of(SIX, tuple(fact for at, fact in enumerate(facts) if at not in gone)))
            self.assertEqual("rules", left[0])
            self.is_true(shows_mend(book, (gone, left[1])))

    def test_six_pairs(self):
        book = book_of(SIX, self.pairs(6))
        self.alike(6, len(quarrels(book)))
        self.refused(TooMany, 4, mend, book)

    def test_one_fact_that_quarrels_with_many(self):
        book = Book("devices a b c\nstays a\nwakes a > b\nwakes a > c\nstirs a")
        self.alike(((0, 1), (0, 2), (0, 3)), quarrels(book))
        self.alike((0,), mend(book)[0])


if __name__ == "__main__":
    unittest.main()
