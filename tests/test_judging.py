"""Promises 27 to 33: claims, whether all of them are so, and whether any is."""

import unittest
from itertools import permutations
from random import Random

from tests.cases import Case
from tests.plain import SIX, nested, odd_values
from tests.seen import KINDS, SMALL, all_facts, all_so, book_of, contraries, contrary, deep_cases, every_that_fits, forks
from tests.seen import great_books, is_either, is_judged, is_tree, renamed, shape, small_books, so_of
from tests.test_books import wrong_facts
from tests.test_fitting import other_trees
from wakesothers.books import Book
from wakesothers.errors import BadClaims, NoRules
from wakesothers.fitting import possible
from wakesothers.judging import either, judged, shows_either, shows_judged
from wakesothers.rules import Rules

THREE = ("fan", "lamp", "pump")
BOOK = Book("devices fan lamp pump\nwakes fan lamp > pump\nstays lamp\nstirs fan\nsleeps pump > lamp")
BARRED = BOOK.told(("stays", ("fan",)))
PUMPS, LAMPS = ("wakes", ("fan",), "pump"), ("wakes", ("fan",), "lamp")
CALLS = ((judged, shows_judged, is_judged), (either, shows_either, is_either))


def wanted_words(rules_that_fit, claims):
    """What judged and either have to tell first, by all Rules that fit."""
    all_claims = {all(so_of(rules, claim) for claim in claims) for rules in rules_that_fit}
    any_claim = {any(so_of(rules, claim) for claim in claims) for rules in rules_that_fit}
    return [word_of(all_claims), word_of(any_claim)]


def word_of(answers):
    return "open" if len(answers) == 2 else "always" if True in answers else "never"


def some_claims(devices, chance, facts, many):
    """One claim or two, some of them facts of the book or contraries of these."""
    every = all_facts(devices)
    pool = every + list(facts) * 3 + list(contraries(facts)) * 3
    found = []
    for at in range(many):
        one, other = chance.choice(pool), chance.choice(pool)
        found.append((one,) if at % 2 or one == other else (one, other))
    return found


def small_cases():
    """Devices, facts that some Rules fit, claims, and these Rules."""
    chance = Random(11)
    found = []
    for devices, facts in small_books():
        rules = every_that_fits(devices, facts)
        if rules:
            found += [(devices, facts, claims, rules) for claims in some_claims(devices, chance, facts, 6)]
    return found


def great_cases():
    """Facts of the greatest books, and claims."""
    chance = Random(12)
    found = []
    for _, facts in great_books():
        stirs = [fact for fact in all_facts(SIX) if fact[0] in ("stirs", "stays") and len(fact[1]) < 3]
        for _ in range(3):
            found.append((facts, tuple(chance.sample(stirs, 2))))
        found += [(facts, claims) for claims in some_claims(SIX, chance, facts, 8)]
    return found


def wrong_claims():
    """Values that are no claims of fan, lamp, pump."""
    found = odd_values() + [
        (), PUMPS, LAMPS, [PUMPS], [PUMPS, LAMPS], (PUMPS, PUMPS), (PUMPS, LAMPS, PUMPS), {PUMPS: LAMPS}, (list(PUMPS),), ((PUMPS,),),
        (PUMPS, LAMPS, ("stays", ())), (PUMPS, None), (None, PUMPS), (PUMPS, ()), "stays", ("stays", ()), (PUMPS, [LAMPS]), BOOK,
        BOOK.text, (BOOK,), (PUMPS, BOOK), (("stays", ()), ("stays", ())), BOOK.facts, (PUMPS, "stays fan"), ("stays fan",), nested(PUMPS),
    ]
    for value in wrong_facts():
        found += [(value,), (PUMPS, value), (value, PUMPS)]
    return found


def nearly(result, facts, devices):
    """Values that are like this result, but for one place."""
    found = [list(result), result + (None,), result[:-1], result[::-1], (result,), result[0], result + result[1:], dict([result[:2]])]
    found += [(word,) + result[1:] for word in ("always", "never", "open", "rules", "OPEN", "", None, True)]
    if result[0] == "open":
        found += [(result[0], result[2], result[1]), (result[0], result[1], result[1]), (result[0], result[2], result[2])]
        found += [(result[0], list(result[1:])), (result[0], result[1:]), (result[0], result[1].bundles, result[2])]
        found += [(result[0], result[1], None), (result[0], None, result[2]), (result[0], result[1], Rules(devices))]
        return found + [(result[0], Rules(devices), result[2]), (result[0], Rules(devices[:-1] + ("x",)), result[2])]
    trees = result[1]
    if trees and trees[0] in ("fork", "leaf"):
        found += [(result[0], (trees,)), (result[0], [trees]), (result[0], (trees, trees))]
        return found + [(result[0], tree) for tree in other_trees(trees, facts, devices)[::3]]
    found += [(result[0], list(trees)), (result[0], trees[::-1]), (result[0], trees[0]), (result[0], trees + trees[:1]), (result[0], ())]
    for at, tree in enumerate(trees):
        for other in other_trees(tree, facts, devices)[::5] + [None]:
            found.append((result[0], trees[:at] + (other,) + trees[at + 1 :]))
    return found


class Promise27(Case):
    def test_wrong_claims(self):
        for value in wrong_claims():
            for book in (BOOK, BARRED):
                for call in (judged, either):
                    self.refused(BadClaims, value, call, book, value)
                    self.refused(BadClaims, value, call, claims=value, book=book)
                for call in (shows_judged, shows_either):
                    for shown in (("open", Rules(THREE), Rules(THREE)), None):
                        self.refused(BadClaims, value, call, book, value, shown)
                        self.refused(BadClaims, value, call, value=shown, claims=value, book=book)

    def test_claims_of_other_devices(self):
        for devices, claims in (
            (("b", "a"), (("stays", ("a", "b")),)), (("a",), (("stays", ("b",)),)), (("a",), (("wakes", ("a",), "b"),)),
            (SIX, (("wakes", SIX[:5], "g"),)), (SIX, (("stays", SIX[::-1]),)), (("a", "b"), (("stays", ()), ("wakes", (), "c"))),
        ):
            for call in (judged, either):
                self.refused(BadClaims, claims, call, book_of(devices, ()), claims)

    def test_each_one_claim_and_two_are_taken(self):
        for devices in SMALL:
            every = all_facts(devices)
            book = book_of(devices, ())
            for at, claim in enumerate(every):
                for claims in ((claim,), (claim, every[at - 1]), (claim, contrary(claim))):
                    for call, shows, plain in CALLS:
                        told = call(book, claims)
                        self.is_true(plain(devices, (), claims, told))
                        self.is_true(shows(book, claims, told))

    def test_no_rules(self):
        claims = (PUMPS,)
        for call in (judged, either):
            self.refused(NoRules, BARRED, call, BARRED, claims)
            self.refused(NoRules, BARRED, call, claims=claims, book=BARRED)
        tree = possible(BARRED)[1]
        for shown in odd_values() + [("never", tree), ("always", (tree,)), ("always", tree), ("open", Rules(THREE), Rules(THREE))]:
            for call in (shows_judged, shows_either):
                self.refused(NoRules, BARRED, call, BARRED, claims, shown)

    def test_no_rules_just_where_none_fit(self):
        for devices, facts in small_books()[::2]:
            book = book_of(devices, facts)
            claims = (("stays", ()),)
            fit = every_that_fits(devices, facts) != []
            for call, shows, _ in CALLS:
                if fit:
                    self.is_true(shows(book, claims, call(book, claims)))
                    self.is_false(shows(book, claims, None))
                else:
                    self.refused(NoRules, book, call, book, claims)
                    self.refused(NoRules, book, shows, book, claims, None)

    def test_no_rules_of_the_greatest_books(self):
        for facts, claims in great_cases()[::7]:
            at = next(at for at, fact in enumerate(facts) if fact[0] == "stays")
            wakes = next(fact for fact in facts if fact[0] == "wakes")
            book = book_of(SIX, facts[:at] + (("stays", wakes[1]),) + facts[at + 1 :])
            self.refused(NoRules, book, judged, book, claims)
            self.refused(NoRules, book, shows_either, book, claims, ("always", ()))


class Promise28And31(Case):
    """Promise 28: judged; promise 31: either."""

    def check(self, devices, facts, claims, words):
        book = book_of(devices, facts)
        for (call, shows, plain), word in zip(CALLS, words):
            told = call(book, claims)
            self.alike(word, told[0])
            self.is_true(plain(devices, facts, claims, told), (call, facts, claims))
            self.is_true(shows(book, claims, told))
            self.alike(shape(told), shape(call(claims=tuple(list(claims)), book=Book(book.text))))
        self.alike(facts, book.facts)

    def test_small_books(self):
        words = []
        for devices, facts, claims, rules in small_cases():
            wanted = wanted_words(rules, claims)
            self.check(devices, facts, claims, wanted)
            words += [(len(claims), call, word) for call, word in enumerate(wanted)]
        for told in [(many, call, word) for many in (1, 2) for call in (0, 1) for word in ("always", "never", "open")]:
            self.assertGreater(words.count(told), 30, told)

    def test_all_claims_of_some_books(self):
        for text in (
            "stirs fan", "stirs", "stirs\nstirs fan\nstirs lamp", "wakes fan lamp > pump\nstays lamp\nstirs fan\nsleeps pump > lamp",
            "wakes > fan\nsleeps fan > pump", "stirs pump\nsleeps pump > fan", "wakes lamp > fan\nwakes fan > pump\nstirs\nsleeps > lamp",
        ):
            book = Book("devices fan lamp pump\n" + text)
            rules = every_that_fits(THREE, book.facts)
            for claim in all_facts(THREE):
                self.check(THREE, book.facts, (claim,), wanted_words(rules, (claim,)))

    def test_facts_of_the_book_and_their_contraries(self):
        for devices, facts, _, _ in small_cases()[::6]:
            for fact in facts:
                self.check(devices, facts, (fact,), ["always", "always"])
                self.check(devices, facts, (contrary(fact),), ["never", "never"])
                self.check(devices, facts, (fact, contrary(fact)), ["never", "always"])
                self.check(devices, facts, (contrary(fact), fact), ["never", "always"])

    def test_a_claim_and_its_contrary(self):
        for devices, facts, claims, _ in small_cases()[::4]:
            self.check(devices, facts, (claims[0], contrary(claims[0])), ["never", "always"])

    def test_of_one_claim_both_tell_the_same_word(self):
        for devices, facts, claims, _ in small_cases():
            book = book_of(devices, facts)
            word = judged(book, claims[:1])[0]
            self.alike(word, either(book, claims[:1])[0])
            turned = {"always": "never", "never": "always", "open": "open"}[word]
            self.alike(turned, judged(book, (contrary(claims[0]),))[0])

    def test_either_tells_of_claims_what_judged_tells_of_contraries(self):
        for devices, facts, claims, _ in small_cases():
            book = book_of(devices, facts)
            turned = {"always": "never", "never": "always", "open": "open"}
            self.alike(turned[either(book, claims)[0]], judged(book, contraries(claims))[0])

    def test_with_more_facts_what_is_sure_stays_sure(self):
        for devices, facts, claims, _ in small_cases():
            for at in range(len(facts)):
                for call, _, _ in CALLS:
                    fewer = call(book_of(devices, facts[:at] + facts[at + 1 :]), claims)[0]
                    if fewer != "open":
                        self.alike(fewer, call(book_of(devices, facts), claims)[0])

    def test_nothing_hangs_on_names_and_sequence(self):
        for devices, facts, claims, _ in small_cases()[::3]:
            for names in permutations(("x", "n", "a")[: len(devices)]):
                others = tuple(sorted(names))
                table = dict(zip(devices, names))
                told = [renamed(table, others, fact) for fact in facts]
                turned = tuple(renamed(table, others, claim) for claim in claims)
                for call, _, _ in CALLS:
                    word = call(book_of(devices, facts), claims)[0]
                    self.alike(word, call(book_of(others, told[::-1]), turned[::-1])[0])

    def test_with_a_device_more_what_is_sure_was_sure(self):
        for devices, facts, claims, _ in small_cases()[::2]:
            for more in (devices + ("more",), ("more",) + devices):
                for call, _, _ in CALLS:
                    word = call(book_of(more, facts), claims)[0]
                    if word != "open":
                        self.alike(word, call(book_of(devices, facts), claims)[0])

    def test_the_examples(self):
        self.alike("always", judged(BOOK, (PUMPS,))[0])
        self.alike("open", judged(BOOK, (PUMPS, LAMPS))[0])
        self.alike("never", judged(BOOK, (("stays", ("fan", "lamp")),))[0])
        self.alike("always", either(BOOK, (LAMPS, ("stays", ("fan", "pump"))))[0])


class Promise29(Case):
    def check(self, facts, claims):
        book = book_of(SIX, facts)
        words = []
        for call, shows, plain in CALLS:
            told = call(book, claims)
            # Right trees, or right Rules, leave no other word than this.
            self.is_true(plain(SIX, facts, claims, told), (call, facts, claims))
            self.is_true(shows(book, claims, told))
            self.alike(shape(told), shape(call(Book(book.text), claims)))
            words.append((told[0], len(forks(told[1])) if told[0] in ("always", "never") and told[1][0] == "fork" else 0))
        return words

    def test_greatest_books(self):
        words = [told for facts, claims in great_cases() for told in self.check(facts, claims)]
        for word in ("always", "never", "open"):
            self.assertGreater([told for told, many in words].count(word), 200)
        self.assertGreater(len([many for told, many in words if many >= 1]), 10)

    def test_more_facts_of_a_kind_than_a_book_may_be_told(self):
        for rules, facts in great_books()[::5]:
            for kind in KINDS:
                more = [fact for fact in all_facts(SIX) if fact[0] == kind and fact not in facts]
                so = [fact for fact in more if so_of(rules, fact)]
                for claims in ((more[0],), (more[-1],), (more[0], more[1]), contraries(more[2:4]), tuple(so[:2])):
                    if claims:
                        self.check(facts, claims)

    def test_five_facts_stirs_are_forked(self):
        for facts, claims in deep_cases():
            book = book_of(SIX, facts)
            for some, call in ((claims, judged), (contraries(claims), either)):
                self.check(facts, some)
                self.check(facts, some[::-1])
                self.check(facts, some[:1])
                self.check(facts, some[1:])
                word, tree = call(book, some)
                self.alike((5, {"judged": "never", "either": "always"}[call.__name__]), (len(forks(tree)), word))
                self.alike("open", call(book, some[:1])[0])


class Promise30And32(Case):
    """Promise 30: shows_judged; promise 32: shows_either."""

    def shown(self, devices, facts, claims, value):
        book = book_of(devices, facts)
        for _, shows, plain in CALLS:
            self.assertIs(plain(devices, facts, claims, value), shows(book, claims, value), (facts, claims, value))

    def test_what_is_like_right_results(self):
        for devices, facts, claims, _ in small_cases()[::3]:
            for call, _, _ in CALLS:
                told = call(book_of(devices, facts), claims)
                for value in nearly(told, facts + claims, devices):
                    self.shown(devices, facts, claims, value)

    def test_what_is_like_right_results_of_the_greatest_books(self):
        for facts, claims in great_cases()[::40]:
            for call, _, _ in CALLS:
                told = call(book_of(SIX, facts), claims)
                for value in nearly(told, facts + claims, SIX)[:60]:
                    self.shown(SIX, facts, claims, value)

    def test_all_pairs_of_rules(self):
        chance = Random(4)
        right = 0
        for devices, facts, claims, rules in small_cases()[::2]:
            every = every_that_fits(devices, ())
            for _ in range(12):
                one, other = chance.choice(chance.choice((rules, every))), chance.choice(chance.choice((rules, every)))
                self.shown(devices, facts, claims, ("open", one, other))
                right += is_judged(devices, facts, claims, ("open", one, other))
        self.assertGreater(right, 300)

    def test_any_value(self):
        for claims in ((PUMPS,), (PUMPS, LAMPS), (("stays", ("fan", "lamp")),), (LAMPS, ("stays", ("fan", "pump"))), (("stirs", THREE),)):
            for _, shows, _ in CALLS:
                for value in odd_values() + [BOOK, (BOOK, BOOK), ("open", BOOK, BOOK), ("always",), ("never",), ("open",), (), "always"]:
                    self.is_false(shows(BOOK, claims, value))
                for word in ("always", "never", "open", "rules"):
                    for value in odd_values():
                        self.is_false(shows(BOOK, claims, (word, value)))
                        self.is_false(shows(BOOK, claims, (word, (value,))))
                        self.is_false(shows(BOOK, claims, (word, (value, value))))
                        self.is_false(shows(BOOK, claims, (word, value, value)))
                        self.is_false(shows(BOOK, claims, [word, value, value]))

    def test_rules_of_other_devices(self):
        claims = (LAMPS,)
        word, one, other = judged(BOOK, claims)
        self.alike("open", word)
        for _, shows, _ in CALLS:
            self.is_true(shows(BOOK, claims, ("open", one, other)))
            for rules in (Rules(("fan", "lamp")), Rules(THREE[::-1]), Rules(THREE + ("more",), one.bundles), Rules(THREE[::-1], ())):
                self.is_false(shows(BOOK, claims, ("open", rules, other)))
                self.is_false(shows(BOOK, claims, ("open", one, rules)))
                self.is_false(shows(BOOK, claims, ("open", rules, rules)))

    def test_trees_by_hand(self):
        tree = ("fork", 2, (("leaf", 4, ((2, "lamp"), (0, "pump"))), ("leaf", 4, ((2, "pump"),))))
        needless = ("fork", 2, (("leaf", 4, ((2, "lamp"), (2, "lamp"), (0, "pump"))), ("leaf", 4, ((2, "pump"), (2, "pump")))))
        for right in (tree, needless):
            self.is_true(shows_judged(BOOK, (PUMPS,), ("always", (right,))))
            self.is_true(shows_either(BOOK, (PUMPS,), ("always", right)))
            self.is_false(shows_judged(BOOK, (PUMPS,), ("always", right)))
            self.is_false(shows_either(BOOK, (PUMPS,), ("always", (right,))))
            self.is_true(shows_judged(BOOK, (contrary(PUMPS),), ("never", right)))
            self.is_true(shows_either(BOOK, (contrary(PUMPS),), ("never", (right,))))
            self.is_false(shows_judged(BOOK, (contrary(PUMPS),), ("never", (right,))))
            self.is_false(shows_either(BOOK, (contrary(PUMPS),), ("never", right)))
        self.is_false(shows_judged(BOOK, (LAMPS,), ("always", (tree,))))
        self.is_false(shows_judged(BOOK, (PUMPS,), ("never", tree)))
        self.is_false(shows_judged(BOOK, (PUMPS,), ("always", (tree, tree))))

    def test_trees_of_two_claims(self):
        claims = (PUMPS, ("stirs", ("fan", "lamp")))
        word, trees = judged(BOOK, claims)
        self.alike(("always", 2), (word, len(trees)))
        for value, wanted in ((trees, True), (trees[::-1], False), (trees[:1], False), (trees + trees[:1], False), (list(trees), False)):
            self.assertIs(wanted, shows_judged(BOOK, claims, ("always", value)))
        # The tree of either is one of the book with both contraries: so each of these is right there.
        self.is_true(shows_either(BOOK, claims, ("always", trees[0])))
        self.is_false(shows_either(BOOK, claims, ("always", trees)))
        against = contraries(claims)
        self.is_true(shows_either(BOOK, against, ("never", trees)))
        self.is_false(shows_either(BOOK, against, ("never", trees[:1])))
        self.is_true(shows_judged(BOOK, against, ("never", trees[0])))

    def test_true_is_not_one(self):
        book = Book("devices a b\nwakes a > b\nsleeps b > a")
        claims = (("stirs", ("a",)),)
        self.is_true(shows_judged(book, claims, ("always", (("leaf", 2, ((0, "b"),)),))))
        self.is_false(shows_judged(book, claims, ("always", (("leaf", 2, ((False, "b"),)),))))
        turned = Book("devices a b\nsleeps b > a\nwakes a > b")
        self.is_true(shows_either(turned, claims, ("always", ("leaf", 2, ((1, "b"),)))))
        self.is_false(shows_either(turned, claims, ("always", ("leaf", 2, ((True, "b"),)))))
        self.is_true(shows_judged(turned, (("wakes", ("b",), "a"),), ("never", ("leaf", 0, ((2, "a"),)))))
        self.is_false(shows_judged(turned, (("wakes", ("b",), "a"),), ("never", ("leaf", False, ((2, "a"),)))))


class Promise33(Case):
    def words(self, text, *claims):
        """What judged and either tell of the claims; by hand, and by a plain reading of what they show."""
        book = Book(text)
        words = []
        for call, shows, plain in CALLS:
            told = call(book, claims)
            self.is_true(plain(book.devices, book.facts, claims, told))
            self.is_true(shows(book, claims, told))
            words.append(told[0])
        return words

    def test_something_comes_on_and_each_of_it_wakes_a_fourth(self):
        text = "devices a b c d\nstirs a\nwakes b > d\nwakes c > d"
        self.alike(["always"] * 2, self.words(text, ("wakes", ("a",), "d")))
        self.alike(["open"] * 2, self.words(text, ("wakes", ("a",), "b")))
        self.alike(["open", "open"], self.words(text, ("wakes", ("a",), "b"), ("wakes", ("a",), "c")))
        self.alike(["open", "always"], self.words(text, ("wakes", ("a",), "b"), ("wakes", ("a",), "d")))
        self.alike(["never"] * 2, self.words(text, ("sleeps", ("a",), "d")))
        self.alike(["always"] * 2, self.words(text + "\nsleeps a > b\nsleeps d > c", ("wakes", ("a",), "d")))
        self.alike(["open"] * 2, self.words("devices a b c d\nstirs a\nwakes b > d", ("wakes", ("a",), "d")))
        # The device that is off by then leaves but one to be chosen.
        less = "devices a b c d\nstirs a\nwakes b > d\nwakes c > d\nsleeps a > c"
        self.alike(["open"] * 2, self.words(less, ("wakes", ("a",), "b")))
        self.alike(["never"] * 2, self.words(less + "\nstays a d", ("wakes", ("a",), "b")))
        self.alike(["always"] * 2, self.words(less + "\nwakes a d > b", ("wakes", ("a",), "b")))

    def test_rings_of_three(self):
        text = "devices a b c\nwakes a > b\nwakes b > c\nwakes c > a"
        for name in "abc":
            for other in "abc":
                if name != other:
                    self.alike(["always"] * 2, self.words(text, ("wakes", (name,), other)))
        self.alike(["always"] * 2, self.words(text, ("stirs", ("a", "b"))))
        self.alike(["open"] * 2, self.words(text, ("stays", ())))
        self.alike(["always"] * 2, self.words(text + "\nstirs", ("wakes", (), "a"), ("wakes", (), "c")))
        self.alike(["never", "always"], self.words(text, ("stays", ()), ("wakes", (), "b")))
        self.alike(["always"] * 2, self.words(text, ("stays", ("a", "b", "c"))))
        ring = "devices a b c\nstirs a\nstirs b\nstirs c"
        self.alike(["open"] * 2, self.words(ring, ("wakes", ("a",), "b")))
        self.alike(["never", "never"], self.words(ring + "\nsleeps a > c", ("stays", ("a",)), ("wakes", ("b",), "c")))
        self.alike(["never", "always"], self.words(ring + "\nsleeps a > c", ("stays", ("a",)), ("wakes", ("c",), "b")))
        self.alike(["always"] * 2, self.words(ring + "\nsleeps a > c", ("wakes", ("a",), "b"), ("wakes", ("b",), "a")))

    def test_what_stirs_beside_all_other_devices(self):
        for devices in ("a b", "a b c d e f"):
            names = tuple(devices.split(" "))
            text = f"devices {devices}\nstirs " + " ".join(names[:-1])
            self.alike(["always"] * 2, self.words(text, ("wakes", names[:-1], names[-1])))
            self.alike(["never"] * 2, self.words(text, ("stays", names[:-1])))
            self.alike(["open"] * 2, self.words(text, ("wakes", names[:-2], names[-1])))
        self.alike(["always"] * 2, self.words("devices a", ("stays", ("a",))))
        self.alike(["never"] * 2, self.words("devices a", ("stirs", ("a",))))
        self.alike(["always"] * 2, self.words("devices a\nstirs", ("wakes", (), "a")))

    def test_a_fact_and_its_contrary(self):
        for devices in (("a",), ("b", "a"), THREE):
            for fact in all_facts(devices):
                text = "devices " + " ".join(devices)
                self.alike(["never", "always"], self.words(text, fact, contrary(fact)))

    def test_claims_of_two_facts(self):
        text = "devices a b c\nwakes a > b"
        self.alike(["open", "always"], self.words(text, ("wakes", ("a",), "b"), ("wakes", ("a",), "c")))
        self.alike(["never", "open"], self.words(text, ("sleeps", ("a",), "b"), ("wakes", ("a",), "c")))
        self.alike(["always", "always"], self.words(text, ("wakes", ("a",), "b"), ("wakes", ("a", "c"), "b")))
        self.alike(["never", "never"], self.words(text, ("stays", ("a",)), ("sleeps", ("a", "c"), "b")))
        self.alike(["open", "always"], self.words("devices a b\nstirs", ("wakes", (), "a"), ("wakes", (), "b")))
        self.alike(["never", "open"], self.words("devices a b\nstirs", ("sleeps", (), "a"), ("sleeps", (), "b")))
        # Neither is so always, nor never, but one of both always is.
        self.alike(["open"] * 2, self.words("devices a b\nstirs", ("wakes", (), "a")))
        # What two lots that stay have in common stays.
        self.alike(["never", "never"], self.words("devices a b c\nstays a b\nstays b c", ("wakes", ("b",), "a"), ("stirs", ("b",))))

    def test_what_was_seen_of_more_is_told_of_less(self):
        # If from a and c nothing more comes on, a alone wakes no more than c.
        text = "devices a b c\nstays a c"
        self.alike(["always"] * 2, self.words(text, ("sleeps", ("a",), "b"), ("sleeps", (), "b")))
        self.alike(["open"] * 2, self.words(text, ("wakes", ("a",), "c")))
        self.alike(["always"] * 2, self.words(text + "\nstirs a", ("wakes", ("a",), "c")))
        text = "devices a b c\nwakes > b"
        self.alike(["always"] * 2, self.words(text, ("wakes", ("a",), "b"), ("wakes", ("a", "c"), "b")))
        self.alike(["never"] * 2, self.words(text, ("stays", ("a",)), ("stays", ("a", "c"))))

    def test_the_trees_by_hand(self):
        book = Book("devices a b c d\nstirs a\nwakes b > d\nwakes c > d")
        claims = (("wakes", ("a",), "d"),)
        leaves = (("leaf", 3, ((0, "b"), (1, "d"))), ("leaf", 3, ((0, "c"), (2, "d"))), ("leaf", 3, ((0, "d"),)))
        self.is_true(shows_judged(book, claims, ("always", (("fork", 0, leaves),))))
        self.is_true(shows_either(book, claims, ("always", ("fork", 0, leaves))))
        for wrong in (leaves[:2], leaves[1:], leaves[::-1], (leaves[1], leaves[0], leaves[2]), (leaves[0],) * 3):
            self.is_false(shows_judged(book, claims, ("always", (("fork", 0, wrong),))))
        two = (("stays", ("a",)), ("wakes", ("b",), "a"))
        self.is_true(shows_judged(book, two, ("never", ("fork", 0, tuple(("leaf", 3, ((0, name),)) for name in "bcd")))))

    def test_a_claim_that_stands_there_already(self):
        book = Book("devices a b\nstirs a\nsleeps b > a")
        # The book with both claims has the fact stirs twice: each may be forked below the other.
        claims = (("stirs", ("a",)), ("stays", ("a",)))
        leaf = ("leaf", 3, ((0, "b"),))
        other = ("leaf", 3, ((2, "b"),))
        for tree in (("fork", 0, (leaf,)), ("fork", 2, (other,)), ("fork", 0, (("fork", 2, (leaf,)),)), ("fork", 2, (("fork", 0, (other,)),))):
            self.is_true(is_tree(book.devices, book.facts + claims, tree))
            self.is_true(shows_judged(book, claims, ("never", tree)))
        for tree in (("fork", 0, (other,)), ("fork", 2, (leaf,)), ("fork", 2, (("fork", 2, (other,)),)), leaf, other):
            self.is_false(shows_judged(book, claims, ("never", tree)))

    def test_facts_that_all_are_so_of_told_rules(self):
        for rules, facts in great_books()[::6]:
            book = book_of(SIX, facts)
            self.is_true(all_so(rules, facts))
            for claim in all_facts(SIX)[::9]:
                word = judged(book, (claim,))[0]
                self.assertNotEqual("never" if so_of(rules, claim) else "always", word)


if __name__ == "__main__":
    unittest.main()
