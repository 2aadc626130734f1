"""Promises 14, 21 and 22: arguments by position or by name, and equal calls."""

import unittest
from itertools import permutations

from tests.cases import Case
from tests.plain import SIX, some_bundles
from tests.seen import all_facts, book_of, contrary, great_books, shape, small_books
from wakesothers.bases import base, needing, of_rests, own_rests
from wakesothers.books import Book
from wakesothers.errors import BadBook, BadBundles, BadClaims, BadDevices, BadFact, BadLot, BadRests, Full, NoFact, NoRules
from wakesothers.errors import OtherDevices, WakeError
from wakesothers.fitting import broken, fits, possible, shows_possible
from wakesothers.judging import either, judged, shows_either, shows_judged
from wakesothers.rules import Rules
from wakesothers.ways import differ, shows_differ, shows_way, way

THREE = ("fan", "lamp", "pump")
BUNDLES = ((("fan", "lamp"), ("pump",)), (("fan",), ("lamp",)))
TEXT = "devices fan lamp pump\nwakes fan lamp > pump\nstays lamp\nstirs fan\nsleeps pump > lamp"


def rules():
    return Rules(THREE, BUNDLES)


def other():
    return Rules(THREE, ((("fan",), ("pump",)),))


def book():
    return Book(TEXT)


def barred():
    return Book(TEXT + "\nstays fan")


def full():
    return book_of(THREE, [("stirs", ()), ("stirs", ("fan",)), ("stirs", ("lamp",))])


PUMPS = (("wakes", ("fan",), "pump"),)
TREE = ("fork", 2, (("leaf", 4, ((2, "lamp"), (0, "pump"))), ("leaf", 4, ((2, "pump"),))))

# What is called (with what it is called on, if it is a method), and its arguments, made anew by each call.
RULE_CALLS = [
    (None, Rules, {"devices": lambda: THREE, "bundles": lambda: BUNDLES}),
    (rules, "rest", {"lot": lambda: ("fan",)}),
    (rules, "stays", {"lot": lambda: ("fan",)}),
    (other, "is_within", {"other": rules}),
    (None, way, {"rules": rules, "lot": lambda: ("fan",), "device": lambda: "pump"}),
    (None, shows_way, {"rules": rules, "lot": lambda: ("fan",), "device": lambda: "pump", "value": lambda: ("wakes", (1, 0))}),
    (None, differ, {"one": rules, "other": other}),
    (None, shows_differ, {"one": rules, "other": other, "value": lambda: ("apart", ("fan",), "lamp")}),
    (None, needing, {"rules": rules}),
    (None, base, {"rules": rules}),
    (None, own_rests, {"rules": rules}),
    (None, of_rests, {"devices": lambda: THREE, "rests": lambda: (("lamp",), ())}),
]
BOOK_CALLS = [
    (None, Book, {"text": lambda: TEXT}),
    (book, "told", {"fact": lambda: PUMPS[0]}),
    (book, "untold", {"number": lambda: 2}),
    (None, broken, {"book": barred, "rules": rules}),
    (None, fits, {"book": book, "rules": rules}),
    (None, possible, {"book": book}),
    (None, possible, {"book": barred}),
    (None, shows_possible, {"book": barred, "value": lambda: ("never", TREE)}),
    (None, judged, {"book": book, "claims": lambda: PUMPS}),
    (None, shows_judged, {"book": book, "claims": lambda: PUMPS, "value": lambda: ("always", (TREE,))}),
    (None, either, {"book": book, "claims": lambda: PUMPS}),
    (None, shows_either, {"book": book, "claims": lambda: PUMPS, "value": lambda: ("always", TREE)}),
]
REFUSED = [
    (BadDevices, Rules, (["a"], None)), (BadBundles, Rules, (THREE, [("fan",)])), (BadLot, rules().rest, ("fan",)),
    (BadDevices, of_rests, (["a"], None)), (BadRests, of_rests, (THREE, [()])), (OtherDevices, rules().is_within, (Rules(("a",)),)),
    (BadBook, Book, (TEXT + "\n",)), (BadBook, Book, (None,)), (BadFact, book().told, (["stays", ()],)),
    (BadFact, full().told, (("stirs", ["lamp"]),)), (Full, full().told, (("stirs", ("pump",)),)), (NoFact, book().untold, (4,)),
    (NoFact, book().untold, (True,)), (OtherDevices, broken, (book(), Rules(THREE[::-1]))), (OtherDevices, fits, (book(), Rules(("a",)))),
    (BadClaims, judged, (barred(), [PUMPS])), (BadClaims, either, (book(), ())), (NoRules, judged, (barred(), PUMPS)),
    (NoRules, either, (barred(), PUMPS)), (NoRules, shows_judged, (barred(), PUMPS, None)),
    (BadClaims, shows_either, (barred(), PUMPS * 2, None)), (NoRules, shows_either, (barred(), PUMPS, ("always", TREE))),
]


class Calls(Case):
    def check_names(self, calls):
        for on, call, arguments in calls:
            make = (lambda: getattr(on(), call)) if on else (lambda: call)
            wanted = make()(*[made() for made in arguments.values()])
            for names in permutations(arguments):
                told = make()(**{name: arguments[name]() for name in names})
                self.alike(shape(wanted), shape(told))
            for many in range(len(arguments)):
                names = list(arguments)
                told = make()(
                    *[arguments[name]() for name in names[:many]],
                    **{name: arguments[name]() for name in names[many:][::-1]},
                )
                self.alike(shape(wanted), shape(told))

    def test_promise_14(self):
        self.check_names(RULE_CALLS)

    def test_promise_22(self):
        self.check_names(BOOK_CALLS)

    def test_no_bundles_are_none_by_name_too(self):
        self.alike(shape(Rules(THREE, ())), shape(Rules(devices=THREE)))


class Promise21(Case):
    def test_arguments_stay_as_they_were(self):
        for on, call, arguments in RULE_CALLS + BOOK_CALLS:
            owner = on() if on else None
            told = {name: made() for name, made in arguments.items()}
            before = shape((owner, tuple(told.values())))
            (getattr(owner, call) if on else call)(**told)
            self.alike(before, shape((owner, tuple(told.values()))))

    def test_lists_and_dicts_stay_as_they_were(self):
        for value in (["never", [TREE]], {"never": [TREE]}, ("never", [list(TREE)]), ("rules", [rules()])):
            before = repr(value)
            self.is_false(shows_possible(barred(), value))
            self.is_false(shows_judged(book(), PUMPS, value))
            self.is_false(shows_either(book(), PUMPS, value))
            self.assertEqual(before, repr(value))

    def test_equal_calls_return_equal_results(self):
        for on, call, arguments in RULE_CALLS + BOOK_CALLS:
            make = (lambda: getattr(on(), call)) if on else (lambda: call)
            first = make()(*[made() for made in arguments.values()])
            for _ in range(3):
                self.alike(shape(first), shape(make()(*[made() for made in arguments.values()])))

    def test_equal_books_and_rules_that_were_made_apart(self):
        for devices, facts in small_books()[::7]:
            one = book_of(devices, facts)
            two = Book("".join(list(one.text)))
            three = Book(one.text.split("\n")[0])
            for fact in facts:
                three = three.told(fact)
            for call in (possible, lambda told: call_or_error(judged, told), lambda told: call_or_error(either, told)):
                self.alike(shape(call(one)), shape(call(two)))
                self.alike(shape(call(one)), shape(call(three)))
        for seed in range(20):
            bundles = some_bundles(SIX, 2 + seed, seed)
            one, two = Rules(SIX, bundles), Rules(tuple(list(SIX)), tuple(list(bundles)))
            for call in (needing, base, own_rests):
                self.alike(shape(call(one)), shape(call(two)))
            told = great_books()[seed][1]
            self.alike(broken(book_of(SIX, told), one), broken(book_of(SIX, told), two))

    def test_refused_ones_raise_likewise(self):
        for error, call, arguments in REFUSED:
            values = []
            for _ in range(3):
                with self.assertRaises(WakeError) as held:
                    call(*arguments)
                self.assertIs(error, held.exception.__class__)
                values.append(held.exception.value)
            self.assertIs(values[0], values[1])
            self.assertIs(values[0], values[2])
            if error not in (BadBook, Full):
                self.assertTrue(any(values[0] is value for value in arguments))

    def test_after_what_was_refused_all_is_as_before(self):
        one = book()
        for fact in (None, ["stays"], ("stays", ["fan"])):
            self.refused(BadFact, fact, one.told, fact)
        self.refused(NoFact, 4, one.untold, 4)
        more = Rules(("fan", "lamp"))
        self.refused(OtherDevices, more, fits, one, more)
        self.alike(shape(book()), shape(one))
        self.alike("rules", possible(one)[0])

    def test_what_was_returned_can_be_handed_in(self):
        for devices, facts in small_books()[::5]:
            told = book_of(devices, facts)
            result = possible(told)
            self.is_true(shows_possible(told, result))
            if result[0] == "rules":
                for claim in all_facts(devices)[::3]:
                    for call, shows in ((judged, shows_judged), (either, shows_either)):
                        for claims in ((claim,), (claim, contrary(claim))):
                            self.is_true(shows(told, claims, call(told, claims)))
                self.is_true(fits(told, base(result[1])))
                self.is_true(of_rests(devices, own_rests(result[1])) == result[1])


def call_or_error(call, told):
    """What the call returns, or the error it raises, with the text of the book if it keeps one."""
    try:
        return call(told, (("stays", ()),))
    except NoRules as error:
        return (error.__class__.__name__, error.value.text)


if __name__ == "__main__":
    unittest.main()
