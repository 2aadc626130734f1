"""Promises 15 to 20: which Rules fit a book, whether any do, and trees."""

import unittest
from functools import cache
from random import Random

from tests.cases import Case
from tests.plain import SIX, all_lots, every_rules, nested, odd_values, some_bundles
from tests.seen import KINDS, SMALL, all_facts, all_so, book_of, contrary, every_that_fits, facts_of_great, forks
from tests.seen import great_books, is_possible, is_tree, shape, small_books, so_of
from wakesothers.books import Book
from wakesothers.errors import OtherDevices
from wakesothers.fitting import broken, fits, possible, shows_possible
from wakesothers.rules import Rules

THREE = ("fan", "lamp", "pump")
BOOK = Book("devices fan lamp pump\nwakes fan lamp > pump\nstays lamp\nstirs fan\nsleeps pump > lamp")
BARRED = BOOK.told(("stays", ("fan",)))
TREE = ("fork", 2, (("leaf", 4, ((2, "lamp"),)), ("leaf", 4, ((2, "pump"),))))


@cache
def barred_great():
    """The greatest books that no Rules fit: one fact of a great book told otherwise."""
    found = []
    for rules, facts in great_books():
        for at, fact in enumerate(facts):
            other = facts[:at] + (contrary(fact),) + facts[at + 1 :]
            if is_greatest(other):
                found.append(other)
        for left, fact in enumerate(facts):
            for more in all_facts(SIX):
                if more[0] == fact[0] and not so_of(rules, more) and more not in facts and left % 14 == 0:
                    found.append(facts[:left] + (more,) + facts[left + 1 :])
    return found


def is_greatest(facts):
    return [len([fact for fact in facts if fact[0] == kind]) for kind in KINDS] == [8, 3, 8, 8]


def wrong_values():
    """Values that are no results of possible, whatever the book."""
    rules = Rules(THREE)
    found = odd_values() + [BOOK, (BOOK,), rules, (rules,), ("rules",), ("never",), ("rules", BOOK), ("never", rules)]
    for word in ("rules", "never"):
        found += [(word, value) for value in odd_values() if not isinstance(value, Rules)]
        found += [[word, rules], (word, rules, ()), (word, TREE, ()), (word, [TREE]), (word, (TREE,)), {word: rules}]
        found += [(word, rules.bundles), (word, None), (word.upper(), rules), (word.upper(), TREE), (word, word), word]
        found += [((word,), rules), ((word,), TREE), (TREE, word), (rules, word), (word, (rules,)), (word, [rules])]
    return found + [("rules", TREE), TREE, (TREE,), [TREE], ("always", TREE), ("open", rules), ("fork", TREE), (None, rules)]


def other_trees(tree, facts, devices):
    """Trees that are like this one, but for one place: many right ones among them, and many wrong ones."""
    word, number, parts = tree
    found = [list(tree), (word, number), (word, number, list(parts)), (word, number, parts, ()), (word, parts, number)]
    found += [(word, told, parts) for told in list(range(-len(facts), len(facts) + 2)) + [True, False, None, str(number)]]
    found += [({"leaf": "fork", "fork": "leaf"}[word], number, parts), (word.upper(), number, parts), (None, number, parts)]
    found += [(word, (number,), parts), (word, number, None), (word, number, ()), (word, number, parts[::-1]), parts, None]
    for at, part in enumerate(parts):
        found += [(word, number, parts[:at] + more + parts[at + 1 :]) for more in ((), (part, part), (None,), (list(part),))]
        if word == "fork":
            others = other_trees(part, facts, devices)
        else:
            others = [(told, name) for told in (*range(-1, len(facts) + 1), True) for name in (*devices, None, "fox")]
            others += [(part[0],), part + (part[1],), part[::-1], ((part[0],), part[1]), (part[0], (part[1],)), part[1]]
        found += [(word, number, parts[:at] + (other,) + parts[at + 1 :]) for other in others]
    return found


class Promise15(Case):
    def test_broken_and_fits(self):
        for devices, facts in small_books()[::2]:
            book = book_of(devices, facts)
            for rules in every_rules(devices) if len(devices) < 3 else every_rules_of_three()[::4]:
                wanted = tuple(number for number, fact in enumerate(facts) if not so_of(rules, fact))
                self.alike(wanted, broken(book, rules))
                self.alike(wanted == (), fits(book, rules))

    def test_broken_and_fits_of_six_devices(self):
        for at, (rules, facts) in enumerate(great_books()):
            book = book_of(SIX, facts)
            self.alike(((), True), (broken(book, rules), fits(book, rules)))
            other = great_books()[at - 1][0]
            wanted = tuple(number for number, fact in enumerate(facts) if not so_of(other, fact))
            self.alike((wanted, wanted == ()), (broken(book, other), fits(book, other)))

    def test_each_fact_and_its_contrary(self):
        for rules in [Rules(("b", "a", "c"), some_bundles(("b", "a", "c"), 2 + seed % 3, seed)) for seed in range(12)]:
            for fact in all_facts(rules.devices):
                book = book_of(rules.devices, (contrary(fact), fact))
                self.alike((0,) if so_of(rules, fact) else (1,), broken(book, rules))
                self.is_false(fits(book, rules))
                self.alike(so_of(rules, fact), fits(book.untold(0), rules))

    def test_by_hand(self):
        rules = Rules(THREE, ((("fan",), ("lamp",)),))
        book = Book("devices fan lamp pump\nstirs\nstays fan lamp\nwakes fan > pump\nsleeps fan > lamp\nstays fan lamp pump")
        self.alike((0, 2, 3), broken(book, rules))
        self.alike((), broken(Book("devices fan lamp pump"), rules))
        self.is_true(fits(Book("devices fan lamp pump"), rules))
        self.alike((0,), broken(Book("devices a\nstirs a"), Rules(("a",), (((), ("a",)),))))

    def test_two_that_fit(self):
        chance = Random(2)
        for devices, facts in small_books():
            found = every_that_fits(devices, facts)
            for one, other in [(chance.choice(found), chance.choice(found)) for _ in range(4)] if found else []:
                book = book_of(devices, facts)
                self.assertTrue({facts[number][0] for number in broken(book, one & other)} <= {"stirs"})
                self.assertTrue({facts[number][0] for number in broken(book, one | other)} <= {"sleeps"})

    def test_two_that_fit_great_books(self):
        for rules, facts in great_books():
            book = book_of(SIX, facts)
            other = possible(book)[1]
            self.assertTrue({facts[number][0] for number in broken(book, rules & other)} <= {"stirs"})
            self.assertTrue({facts[number][0] for number in broken(book, rules | other)} <= {"sleeps"})

    def test_stirs_and_sleeps_can_get_lost(self):
        one, other = Rules(THREE, ((("fan",), ("lamp",)),)), Rules(THREE, ((("fan",), ("pump",)),))
        book = Book("devices fan lamp pump\nstirs fan")
        self.alike((True, True, False), (fits(book, one), fits(book, other), fits(book, one & other)))
        more = Rules(THREE, ((("lamp",), ("pump",)),))
        book = Book("devices fan lamp pump\nsleeps fan > pump")
        self.alike((True, True, False), (fits(book, one), fits(book, more), fits(book, one | more)))


def every_rules_of_three():
    return every_that_fits(("pump", "fan", "lamp"), ())


class Promise16(Case):
    def test_other_devices(self):
        for devices, others in (
            (("a", "b"), ("b", "a")), (("a", "b"), ("a",)), (("a",), ("a", "b")), (("a",), ("b",)), (SIX, SIX[::-1]),
            (THREE, ("fan", "pump", "lamp")), (THREE, ("fan", "lamp", "pumps")), (SIX, SIX[:5]),
        ):
            for facts in ((), (("stirs", devices),), (("stays", ()),)):
                book, rules = book_of(devices, facts), Rules(others)
                for call in (broken, fits):
                    self.refused(OtherDevices, rules, call, book, rules)
                    self.refused(OtherDevices, rules, call, rules=rules, book=book)
                self.is_false(shows_possible(book, ("rules", rules)))
                self.is_false(shows_possible(book=book, value=("rules", Rules(others, (((), others),)))))

    def test_the_same_devices(self):
        for devices in SMALL:
            book = book_of(devices, ())
            rules = Rules(tuple(list(devices)))
            self.alike(((), True, True), (broken(book, rules), fits(book, rules), shows_possible(book, ("rules", rules))))


class Promise17(Case):
    def check(self, devices, facts, some_fit):
        book = book_of(devices, facts)
        told = possible(book)
        self.alike("rules" if some_fit else "never", told[0])
        self.is_true(is_possible(devices, facts, told))
        self.is_true(shows_possible(book, told))
        self.is_true(shows_possible(Book(book.text), possible(Book(book.text))))
        self.alike(shape(told), shape(possible(book=Book(book.text))))

    def test_small_books(self):
        for devices, facts in small_books():
            self.check(devices, facts, every_that_fits(devices, facts) != [])

    def test_books_without_facts(self):
        for many in range(1, 7):
            self.check(SIX[:many], (), True)

    def test_the_examples(self):
        self.alike("rules", possible(BOOK)[0])
        self.alike("never", possible(BARRED)[0])
        self.is_true(shows_possible(BARRED, ("never", TREE)))
        self.alike(("never", ("fork", 0, ())), possible(Book("devices a\nstirs a")))

    def test_what_must_be_chosen_anew(self):
        # Only the last choice for the one and the last for the other fit.
        devices = ("a", "b", "c", "d")
        sleeps = tuple(("sleeps", (name,), other) for name, other in (("a", "b"), ("a", "c"), ("b", "a"), ("b", "c")))
        stirs = (("stirs", ("a",)), ("stirs", ("b",)))
        self.check(devices, stirs + sleeps, True)
        self.check(devices, stirs + sleeps + (("wakes", ("d",), "c"),), False)
        self.check(devices, stirs + sleeps + (("sleeps", ("b",), "d"),), False)

    def test_a_fact_and_its_contrary(self):
        for fact in all_facts(THREE):
            self.check(THREE, (fact, contrary(fact)), False)
            self.check(THREE, (contrary(fact), fact), False)
            self.check(THREE, (fact,), fact != ("stirs", THREE))


class Promise18(Case):
    def shown(self, devices, facts, value):
        book = book_of(devices, facts)
        self.assertIs(is_possible(devices, facts, value), shows_possible(book, value), (facts, value))

    def test_all_rules(self):
        for devices, facts in small_books()[::3]:
            for rules in every_that_fits(devices, ()):
                self.shown(devices, facts, ("rules", rules))
                self.shown(devices, facts, ("rules", Rules(devices, rules.bundles[::-1])))
                self.assertIs(all_so(rules, facts), shows_possible(book_of(devices, facts), ("rules", rules)))

    def test_any_value(self):
        for book in (BOOK, BARRED, Book("devices fan lamp pump\nstirs"), Book("devices fan lamp pump\nstirs fan lamp pump")):
            for value in wrong_values():
                self.is_false(shows_possible(book, value), value)

    def test_what_is_nearly_a_result(self):
        rules = possible(BOOK)[1]
        self.is_true(shows_possible(BOOK, ("rules", rules)))
        for value in (["rules", rules], ("rules", [rules]), ("rules", rules, rules), ("rules", rules.bundles), ("never", rules)):
            self.is_false(shows_possible(BOOK, value))
        self.is_false(shows_possible(BOOK, ("rules", Rules(THREE))))
        self.is_false(shows_possible(BOOK, ("never", TREE)))
        self.is_false(shows_possible(BARRED, ("rules", rules)))
        for value in (["never", TREE], ("never", list(TREE)), ("never", TREE, ()), ("never", (TREE,)), ("rules", TREE), TREE):
            self.is_false(shows_possible(BARRED, value))

    def test_steps_and_forks_that_are_not_needed(self):
        book = Book("devices a b c\nstirs a\nstirs b\nwakes a > b\nsleeps a > b\nwakes b > c")
        never = ("leaf", 3, ((2, "b"),))
        self.is_true(shows_possible(book, ("never", never)))
        self.is_true(shows_possible(book, ("never", ("leaf", 3, ((2, "b"), (2, "b"))))))
        self.is_true(shows_possible(book, ("never", ("leaf", 3, ((2, "b"), (4, "c"), (4, "c"), (2, "b"))))))
        self.is_true(shows_possible(book, ("never", ("fork", 0, (never, never)))))
        self.is_true(shows_possible(book, ("never", ("fork", 1, (("fork", 0, (never, never)), never)))))
        first = ("leaf", 3, ((0, "b"),))
        self.is_true(shows_possible(book, ("never", ("fork", 0, (first, never)))))
        self.is_true(shows_possible(book, ("never", ("fork", 0, (first, ("leaf", 3, ((0, "c"), (2, "b"))))))))
        self.is_false(shows_possible(book, ("never", ("fork", 0, (first, first)))))
        self.is_false(shows_possible(book, ("never", ("fork", 0, (first,)))))

    def test_equal_facts_are_forked_one_below_the_other(self):
        # Of a book itself none is there twice: so these are like each other, not equal.
        book = Book("devices a b\nstirs a\nstirs\nsleeps a > b\nstays")
        leaf = ("leaf", 2, ((0, "b"),))
        self.is_true(shows_possible(book, ("never", ("fork", 0, (leaf,)))))
        self.is_true(shows_possible(book, ("never", ("fork", 1, (("fork", 0, (leaf,)), ("leaf", 3, ((1, "b"),)))))))
        self.is_false(shows_possible(book, ("never", ("fork", 0, (("fork", 0, (leaf,)),)))))


class Promise19(Case):
    def test_trees_by_hand(self):
        for right in (
            TREE,
            ("fork", 2, (("leaf", 4, ((2, "lamp"), (0, "pump"))), ("leaf", 4, ((2, "pump"),)))),
            ("fork", 2, (("leaf", 4, ((2, "lamp"), (2, "lamp"), (0, "pump"), (0, "pump"))), ("leaf", 4, ((2, "pump"),)))),
        ):
            self.is_true(shows_possible(BARRED, ("never", right)), right)

    def test_a_step_ahead_of_its_lot(self):
        for steps in (((0, "pump"), (2, "lamp")), ((0, "pump"),), ((0, "pump"), (2, "lamp"), (0, "pump"))):
            self.none(("fork", 2, (("leaf", 4, steps), ("leaf", 4, ((2, "pump"),)))))

    def test_a_step_of_another_branch(self):
        self.none(("fork", 2, (("leaf", 4, ((2, "pump"),)), ("leaf", 4, ((2, "pump"),)))))
        self.none(("fork", 2, (("leaf", 4, ((2, "lamp"),)), ("leaf", 4, ((2, "lamp"),)))))
        self.none(("fork", 2, (("leaf", 4, ((2, "pump"),)), ("leaf", 4, ((2, "lamp"),)))))
        self.none(("leaf", 4, ((2, "lamp"),)))
        self.none(("leaf", 4, ((2, "pump"),)))

    def test_a_fact_forked_twice(self):
        again = ("fork", 2, (("leaf", 4, ((2, "lamp"),)), ("leaf", 4, ((2, "lamp"),))))
        self.none(("fork", 2, (again, ("leaf", 4, ((2, "pump"),)))))
        self.none(("fork", 2, (TREE, TREE)))
        self.none(("fork", 2, (TREE, ("leaf", 4, ((2, "pump"),)))))

    def test_branches_missing_or_too_many_or_exchanged(self):
        first, last = TREE[2]
        for parts in ((), (first,), (last,), (last, first), (first, last, last), (first, first, last), (first, None), [first, last]):
            self.none(("fork", 2, parts))

    def test_leaves_without_a_step_that_breaks_them(self):
        for steps in ((), ((2, "fan"),), ((0, "lamp"),), ((1, "lamp"),), ((3, "lamp"),), ((4, "lamp"),), (None,), "", None):
            self.none(("fork", 2, (("leaf", 4, steps), ("leaf", 4, ((2, "pump"),)))))
        book = Book("devices a b c\nwakes a > b\nsleeps a > c\nstays a")
        self.is_true(shows_possible(book, ("never", ("leaf", 2, ((0, "b"),)))))
        self.is_false(shows_possible(book, ("never", ("leaf", 1, ((0, "b"),)))))
        self.is_false(shows_possible(book, ("never", ("leaf", 2, ()))))

    def test_leaves_and_forks_of_other_kinds(self):
        for number in (0, 1, 2, 3, 5, -1, True, False, None, "4", (4,), [4]):
            self.none(("fork", 2, (("leaf", number, ((2, "lamp"),)), ("leaf", 4, ((2, "pump"),)))))
        for number in (0, 1, 3, 4, 5, -1, -3, True, None, "2", (2,)):
            self.none(("fork", number, TREE[2]))
            self.none(("fork", number, ()))

    def test_true_is_not_one(self):
        book = Book("devices a b\nsleeps a > b\nstirs a")
        self.is_true(shows_possible(book, ("never", ("fork", 1, (("leaf", 0, ((1, "b"),)),)))))
        for tree in (
            ("fork", True, (("leaf", 0, ((1, "b"),)),)), ("fork", 1, (("leaf", False, ((1, "b"),)),)),
            ("fork", 1, (("leaf", 0, ((True, "b"),)),)), ("fork", 1, (("leaf", 0, ([1, "b"],)),)),
            ("fork", 1, (("leaf", 0, [(1, "b")]),)), ("fork", 1, [("leaf", 0, ((1, "b"),))]), ("fork", 1, (["leaf", 0, ((1, "b"),)],)),
            ["fork", 1, (("leaf", 0, ((1, "b"),)),)], ("fork", 1, (("leaf", 0, {(1, "b"): 1}),)),
        ):
            self.is_false(shows_possible(book, ("never", tree)))

    def test_a_fact_stirs_with_all_devices_forks_into_no_tree(self):
        for devices in (("a",), ("b", "a"), THREE, SIX):
            book = book_of(devices, (("stays", ()), ("stirs", devices)))
            self.alike(("never", ("fork", 1, ())), possible(book))
            self.is_true(shows_possible(book, ("never", ("fork", 1, ()))))
            for tree in (("fork", 0, ()), ("fork", 1, []), ("fork", 1, None), ("fork", 1), ("leaf", 1, ()), ("fork", 1, (("leaf", 0, ()),))):
                self.is_false(shows_possible(book, ("never", tree)))
        book = Book("devices a b\nstirs a b\nstirs")
        self.is_true(shows_possible(book, ("never", ("fork", 1, (("fork", 0, ()), ("fork", 0, ()))))))
        self.is_false(shows_possible(book, ("never", ("fork", 1, ()))))

    def test_the_lot_of_no_devices(self):
        book = Book("devices a b\nstirs\nsleeps > a\nsleeps > b")
        self.is_true(shows_possible(book, ("never", ("fork", 0, (("leaf", 1, ((0, "a"),)), ("leaf", 2, ((0, "b"),)))))))
        self.is_false(shows_possible(book, ("never", ("fork", 0, (("leaf", 2, ((0, "a"),)), ("leaf", 1, ((0, "b"),)))))))

    def test_what_is_like_right_trees(self):
        right = wrong = 0
        for devices, facts in small_books()[::2]:
            told = possible(book_of(devices, facts))
            if told[0] == "never":
                for tree in other_trees(told[1], facts, devices):
                    wanted = is_tree(devices, facts, tree)
                    self.assertIs(wanted, shows_possible(book_of(devices, facts), ("never", tree)), (facts, tree))
                    right, wrong = right + wanted, wrong + (not wanted)
        self.assertGreater(right, 200)
        self.assertGreater(wrong, 2000)

    def test_trees_at_random(self):
        right = 0
        chance = Random(7)
        for seed in range(6000):
            devices, facts = small_books()[seed % 500] if seed % 2 else (THREE, BARRED.facts)
            tree = random_tree(chance, devices, facts, 3)
            wanted = is_tree(devices, facts, tree)
            self.assertIs(wanted, shows_possible(book_of(devices, facts), ("never", tree)), (facts, tree))
            right += wanted
        self.assertGreater(right, 100)

    def none(self, tree):
        self.is_false(is_tree(THREE, BARRED.facts, tree), tree)
        self.is_false(shows_possible(BARRED, ("never", tree)), tree)

    def test_deep_values(self):
        deep = TREE
        for _ in range(12):
            deep = ("fork", 2, (deep, deep))
        self.none(deep)
        self.none(nested(TREE, 20))
        self.none(("leaf", 4, nested((2, "lamp"), 20)))


def random_tree(chance, devices, facts, deep):
    stirs = [number for number, fact in enumerate(facts) if fact[0] == "stirs"]
    limits = [number for number, fact in enumerate(facts) if fact[0] in ("stays", "sleeps")]
    if deep and stirs and chance.random() < 0.6:
        number = chance.choice(stirs)
        many = len(devices) - len(facts[number][1])
        return ("fork", number, tuple(random_tree(chance, devices, facts, deep - 1) for _ in range(many)))
    sources = [(number, name) for number, fact in enumerate(facts) for name in fact[2:] or devices if fact[0] in ("wakes", "stirs")]
    steps = tuple(chance.choice(sources) for _ in range(chance.randrange(4))) if sources else ()
    return ("leaf", chance.choice(limits), steps) if limits else ("leaf", 0, steps)


class Promise20(Case):
    def check(self, facts):
        book = book_of(SIX, facts)
        told = possible(book)
        self.is_true(is_possible(SIX, facts, told))
        self.is_true(shows_possible(book, told))
        return told

    def test_greatest_books_that_some_rules_fit(self):
        self.assertGreater(len(great_books()), 40)
        for rules, facts in great_books():
            self.assertTrue(is_greatest(facts))
            self.alike("rules", self.check(facts)[0])
            self.is_true(shows_possible(book_of(SIX, facts), ("rules", rules)))

    def test_greatest_books_that_may_be_barred(self):
        forked = set()
        words = []
        for facts in barred_great():
            self.assertTrue(is_greatest(facts))
            told = self.check(facts)
            words.append(told[0])
            forked.add(len(forks(told[1])) if told[0] == "never" else -1)
            if told[0] == "never":
                self.is_false(any(all_so(rules, facts) for rules, _ in great_books()[:5]))
        self.assertEqual({-1, 0, 1, 2, 3}, forked)
        self.assertGreater(words.count("rules"), 20)
        self.assertGreater(words.count("never"), 200)

    def test_greatest_books_without_any_lot_that_is_easy(self):
        # Three facts stirs of few devices, each of which has to be forked below the others.
        stays = tuple(("stays", lot) for lot in all_lots(SIX) if len(lot) == 5)
        sleeps = tuple(("sleeps", ("a",), name) for name in SIX[1:]) + tuple(("sleeps", ("b",), name) for name in "cde")
        wakes = tuple(("wakes", SIX[:at] + SIX[at + 1 : at + 3], SIX[at]) for at in range(3))
        facts = (("stirs", ("b",)), ("stirs", ("c",)), ("stirs", ())) + sleeps + stays + wakes
        self.check(facts)
        self.check(facts + (("stays", ("d", "e")), ("stays", ())))
        self.alike("never", self.check((("stirs", ("a",)),) + facts[:2] + sleeps)[0])

    def test_once_none_fit_none_fit_with_more_facts(self):
        for seed in range(30):
            _, facts = facts_of_great(seed)
            _, others = facts_of_great(seed + 1)
            mixed = [fact for pair in zip(facts, others) for fact in dict.fromkeys(pair)]
            book = Book("devices " + " ".join(SIX))
            never = False
            for fact in dict.fromkeys(mixed):
                if len([told for told in book.facts if told[0] == fact[0]]) < (3 if fact[0] == "stirs" else 8):
                    book = book.told(fact)
                    told = self.check(book.facts)
                    self.assertFalse(never and told[0] == "rules")
                    if never:
                        # The tree of fewer facts is one of more, too.
                        self.is_true(shows_possible(book, ("never", tree)))
                    if told[0] == "never":
                        never, tree = True, told[1]

    def test_other_names_and_another_sequence(self):
        for _, facts in great_books()[:20]:
            self.alike(possible(book_of(SIX, facts))[0], possible(book_of(SIX, facts[::-1]))[0])
        for facts in barred_great()[::9]:
            self.alike(possible(book_of(SIX, facts))[0], possible(book_of(SIX, facts[::-1]))[0])


if __name__ == "__main__":
    unittest.main()
