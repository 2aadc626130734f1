"""Promises 14, 21, 22, 39, 40 and 77: arguments by position or by name, and equal calls."""

import unittest
from itertools import permutations

from tests.cases import Case
from tests.plain import SIX, some_bundles
from tests.seen import all_facts, book_of, contrary, great_books, shape, small_books
from wakesothers.bases import base, needing, of_rests, own_rests
from wakesothers.books import Book
from wakesothers.comparing import alike, mend, needless, quarrels, shows_alike, shows_mend, shows_within, within
from wakesothers.desk import Desk
from wakesothers.errors import BadBook, BadBundles, BadClaim, BadClaims, BadDevice, BadDevices, BadFact, BadLine, BadLot, BadOffers
from wakesothers.errors import BadPrices, BadRests, Full, IsOn, NoFact, NoRules, OtherDevices, WakeError
from wakesothers.fitting import broken, fits, possible, shows_possible
from wakesothers.journals import journal, read_journal
from wakesothers.judging import either, judged, shows_either, shows_judged
from wakesothers.rules import Rules
from wakesothers.starting import blockers, chances, cheapest, starters
from wakesothers.surely import comes, ends, outer, sure
from wakesothers.trying import shows_trials, trials
from wakesothers.watches import Watch
from wakesothers.ways import differ, shows_differ, shows_way, way

THREE = ("fan", "lamp", "pump")
BUNDLES = ((("fan", "lamp"), ("pump",)), (("fan",), ("lamp",)))
TEXT = "devices fan lamp pump\nwakes fan lamp > pump\nstays lamp\nstirs fan\nsleeps pump > lamp"


def rules():
    return Rules(THREE, BUNDLES)


def other():
    return Rules(THREE, ((("fan",), ("pump",)),))


def book():
    return Book(TEXT)


def barred():
    return Book(TEXT + "\nstays fan")


def full():
    return book_of(THREE, [("stirs", ()), ("stirs", ("fan",)), ("stirs", ("lamp",))])


def less():
    return Book(TEXT).untold(1)


def watch():
    told = Watch(book())
    told.put("fan", ("pump",))
    told.off()
    told.undo()
    return told


def desk():
    return Desk(TEXT + "\nseen\nput fan : pump")


def look(told):
    told.off()
    return (told.on, told.done)


PUMPS = (("wakes", ("fan",), "pump"),)
LAMPS = ("wakes", ("fan",), "lamp")
OFFERS = ((("fan",), 2), (("pump",), 1))
TREE = ("fork", 2, (("leaf", 4, ((2, "lamp"), (0, "pump"))), ("leaf", 4, ((2, "pump"),))))

# What is called (with what it is called on, if it is a method), and its arguments, made anew by each call.
RULE_CALLS = [
    (None, Rules, {"devices": lambda: THREE, "bundles": lambda: BUNDLES}),
    (rules, "rest", {"lot": lambda: ("fan",)}),
    (rules, "stays", {"lot": lambda: ("fan",)}),
    (other, "is_within", {"other": rules}),
    (None, way, {"rules": rules, "lot": lambda: ("fan",), "device": lambda: "pump"}),
    (None, shows_way, {"rules": rules, "lot": lambda: ("fan",), "device": lambda: "pump", "value": lambda: ("wakes", (1, 0))}),
    (None, differ, {"one": rules, "other": other}),
    (None, shows_differ, {"one": rules, "other": other, "value": lambda: ("apart", ("fan",), "lamp")}),
    (None, needing, {"rules": rules}),
    (None, base, {"rules": rules}),
    (None, own_rests, {"rules": rules}),
    (None, of_rests, {"devices": lambda: THREE, "rests": lambda: (("lamp",), ())}),
]
BOOK_CALLS = [
    (None, Book, {"text": lambda: TEXT}),
    (book, "told", {"fact": lambda: PUMPS[0]}),
    (book, "untold", {"number": lambda: 2}),
    (None, broken, {"book": barred, "rules": rules}),
    (None, fits, {"book": book, "rules": rules}),
    (None, possible, {"book": book}),
    (None, possible, {"book": barred}),
    (None, shows_possible, {"book": barred, "value": lambda: ("never", TREE)}),
    (None, judged, {"book": book, "claims": lambda: PUMPS}),
    (None, shows_judged, {"book": book, "claims": lambda: PUMPS, "value": lambda: ("always", (TREE,))}),
    (None, either, {"book": book, "claims": lambda: PUMPS}),
    (None, shows_either, {"book": book, "claims": lambda: PUMPS, "value": lambda: ("always", TREE)}),
]
MORE_CALLS = [
    (None, comes, {"book": book, "lot": lambda: ("fan",)}),
    (None, ends, {"book": book, "lot": lambda: ("fan",)}),
    (None, sure, {"book": book}),
    (None, outer, {"book": book}),
    (None, starters, {"book": book, "goal": lambda: ("pump",)}),
    (None, blockers, {"book": book, "goal": lambda: ("pump",)}),
    (None, chances, {"book": book, "goal": lambda: ("lamp",)}),
    (None, cheapest, {"book": book, "goal": lambda: ("pump",), "prices": lambda: (2, 1, 3)}),
    (None, within, {"one": book, "other": less}),
    (None, within, {"one": less, "other": book}),
    (None, shows_within, {"one": book, "other": less, "value": lambda: within(book(), less())}),
    (None, shows_within, {"one": less, "other": book, "value": lambda: within(book(), less())}),
    (None, alike, {"one": book, "other": less}),
    (None, alike, {"one": book, "other": lambda: book().told(("stays", THREE))}),
    (None, shows_alike, {"one": book, "other": less, "value": lambda: alike(less(), book())}),
    (None, needless, {"book": lambda: book().told(PUMPS[0])}),
    (None, quarrels, {"book": barred}),
    (None, mend, {"book": barred}),
    (None, shows_mend, {"book": barred, "value": lambda: mend(barred())}),
]
LIVE_CALLS = [
    (None, trials, {"book": book, "offers": lambda: OFFERS, "claim": lambda: LAMPS}),
    (None, shows_trials, {"book": book, "offers": lambda: OFFERS, "claim": lambda: LAMPS, "value": lambda: trials(book(), OFFERS, LAMPS)}),
    (None, Watch, {"book": book}),
    (watch, "tell", {"fact": lambda: ("stays", ())}),
    (watch, "drop", {"number": lambda: 2}),
    (watch, "put", {"device": lambda: "lamp", "came": lambda: ()}),
    (watch, "off", {}),
    (watch, "coming", {"device": lambda: "lamp"}),
    (watch, "judged", {"claims": lambda: PUMPS}),
    (watch, "undo", {}),
    (watch, "redo", {}),
    (watch, "tried", {"look": lambda: look}),
    (watch, "copy", {}),
    (None, journal, {"watch": watch}),
    (None, read_journal, {"text": lambda: journal(watch())}),
    (None, Desk, {"text": lambda: journal(watch())}),
    (desk, "say", {"line": lambda: "surely fan"}),
    (desk, "say", {"line": lambda: "put lamp"}),
]
# What changes nothing.
ASKING_CALLS = [case for case in LIVE_CALLS if case[1] in ("coming", "judged", "tried", "copy", trials, shows_trials, Watch, journal,
    read_journal, Desk)]
REFUSED = [
    (BadDevices, Rules, (["a"], None)), (BadBundles, Rules, (THREE, [("fan",)])), (BadLot, rules().rest, ("fan",)),
    (BadDevices, of_rests, (["a"], None)), (BadRests, of_rests, (THREE, [()])), (OtherDevices, rules().is_within, (Rules(("a",)),)),
    (BadBook, Book, (TEXT + "\n",)), (BadBook, Book, (None,)), (BadFact, book().told, (["stays", ()],)),
    (BadFact, full().told, (("stirs", ["lamp"]),)), (Full, full().told, (("stirs", ("pump",)),)), (NoFact, book().untold, (4,)),
    (NoFact, book().untold, (True,)), (OtherDevices, broken, (book(), Rules(THREE[::-1]))), (OtherDevices, fits, (book(), Rules(("a",)))),
    (BadClaims, judged, (barred(), [PUMPS])), (BadClaims, either, (book(), ())), (NoRules, judged, (barred(), PUMPS)),
    (NoRules, either, (barred(), PUMPS)), (NoRules, shows_judged, (barred(), PUMPS, None)),
    (BadClaims, shows_either, (barred(), PUMPS * 2, None)), (NoRules, shows_either, (barred(), PUMPS, ("always", TREE))),
]
MORE_REFUSED = [
    (NoRules, comes, (barred(), None)), (NoRules, ends, (barred(), ["fan"])), (BadLot, comes, (book(), ["fan"])), (BadLot, ends, (book(), ("fox",))),
    (NoRules, sure, (barred(),)), (NoRules, outer, (barred(),)), (NoRules, starters, (barred(), None)), (BadLot, blockers, (book(), ["fan"])),
    (BadLot, chances, (book(), "fan")), (BadLot, cheapest, (book(), ["fan"], None)), (BadPrices, cheapest, (book(), ("fan",), [1, 1, 1])),
    (OtherDevices, within, (book(), rules())), (NoRules, within, (barred(), book())), (OtherDevices, alike, (barred(), [book()])), (NoRules,
    alike, (book(), barred())),
    (NoRules, shows_within, (barred(), book(), None)), (OtherDevices, shows_alike, (book(), None, None)), (NoRules, needless, (barred(),)),
    (BadOffers, trials, (barred(), [OFFERS[0]], None)), (BadClaim, trials, (barred(), OFFERS, ["stays", ()])), (NoRules, trials, (barred(),
    OFFERS, LAMPS)),
    (BadOffers, shows_trials, (book(), (), LAMPS, None)), (NoRules, Watch, (barred(),)), (BadFact, watch().tell, (["stays", ()],)), (NoFact,
    watch().drop, (True,)),
    (BadDevice, watch().put, (["lamp"], ())), (IsOn, watch().put, ("pump", ())), (BadLot, watch().put, ("lamp", ["fan"])), (BadDevice,
    watch().coming, (("fan",),)),
    (BadClaims, watch().judged, ([PUMPS],)), (BadLine, desk().say, ("nothing",)), (BadLine, desk().say, (["on"],)),
]


class Calls(Case):
    def check_names(self, calls):
        for on, call, arguments in calls:
            make = (lambda: getattr(on(), call)) if on else (lambda: call)
            wanted = make()(*[made() for made in arguments.values()])
            for names in permutations(arguments):
                told = make()(**{name: arguments[name]() for name in names})
                self.alike(shape(wanted), shape(told))
            for many in range(len(arguments)):
                names = list(arguments)
                told = make()(
                    *[arguments[name]() for name in names[:many]],
                    **{name: arguments[name]() for name in names[many:][::-1]},
                )
                self.alike(shape(wanted), shape(told))

    def test_promise_14(self):
        self.check_names(RULE_CALLS)

    def test_promise_22(self):
        self.check_names(BOOK_CALLS)

    def test_promise_39(self):
        self.check_names(MORE_CALLS)

    def test_promise_77(self):
        self.check_names(LIVE_CALLS)

    def test_what_changes_a_watch_changes_it_alike(self):
        for on, call, arguments in LIVE_CALLS:
            if on is watch:
                one, other = watch(), watch()
                getattr(one, call)(*[made() for made in arguments.values()])
                getattr(other, call)(**{name: arguments[name]() for name in list(arguments)[::-1]})
                self.alike(shape(one), shape(other))

    def test_keep_of_tried_by_its_name_alone(self):
        one, other = watch(), watch()
        self.alike(((), 2), one.tried(look, keep=True))
        self.alike(((), 2), other.tried(keep=True, look=look))
        self.alike(2, one.done)
        self.alike(shape(one), shape(other))
        self.assertRaises(TypeError, one.tried, look, True)
        self.assertRaises(TypeError, one.tried, look, False)
        self.alike(2, one.done)

    def test_no_bundles_are_none_by_name_too(self):
        self.alike(shape(Rules(THREE, ())), shape(Rules(devices=THREE)))


class Promise21And40(Case):
    def test_arguments_stay_as_they_were(self):
        for on, call, arguments in RULE_CALLS + BOOK_CALLS + MORE_CALLS + ASKING_CALLS:
            owner = on() if on else None
            told = {name: made() for name, made in arguments.items()}
            before = shape((owner, tuple(told.values())))
            (getattr(owner, call) if on else call)(**told)
            self.alike(before, shape((owner, tuple(told.values()))))

    def test_lists_and_dicts_stay_as_they_were(self):
        for value in (["never", [TREE]], {"never": [TREE]}, ("never", [list(TREE)]), ("rules", [rules()])):
            before = repr(value)
            self.is_false(shows_possible(barred(), value))
            self.is_false(shows_judged(book(), PUMPS, value))
            self.is_false(shows_either(book(), PUMPS, value))
            self.assertEqual(before, repr(value))

    def test_equal_calls_return_equal_results(self):
        for on, call, arguments in RULE_CALLS + BOOK_CALLS + MORE_CALLS + LIVE_CALLS:
            make = (lambda: getattr(on(), call)) if on else (lambda: call)
            first = make()(*[made() for made in arguments.values()])
            for _ in range(3):
                self.alike(shape(first), shape(make()(*[made() for made in arguments.values()])))

    def test_equal_books_and_rules_that_were_made_apart(self):
        for devices, facts in small_books()[::7]:
            one = book_of(devices, facts)
            two = Book("".join(list(one.text)))
            three = Book(one.text.split("\n")[0])
            for fact in facts:
                three = three.told(fact)
            for call in (possible, lambda told: call_or_error(judged, told), lambda told: call_or_error(either, told)):
                self.alike(shape(call(one)), shape(call(two)))
                self.alike(shape(call(one)), shape(call(three)))
        for seed in range(20):
            bundles = some_bundles(SIX, 2 + seed, seed)
            one, two = Rules(SIX, bundles), Rules(tuple(list(SIX)), tuple(list(bundles)))
            for call in (needing, base, own_rests):
                self.alike(shape(call(one)), shape(call(two)))
            told = great_books()[seed][1]
            self.alike(broken(book_of(SIX, told), one), broken(book_of(SIX, told), two))

    def test_of_equal_books_that_were_made_apart(self):
        calls = [
            lambda told: comes(told, told.devices[:1]), lambda told: ends(told, ()), sure, outer, lambda told: starters(told, told.devices[-1:]),
            lambda told: blockers(told, told.devices), lambda told: chances(told, told.devices), needless, lambda told: within(told, told),
            lambda told: alike(told, told), lambda told: trials(told, (((), 1), (told.devices, 2)), ("stays", ())), mend,
            lambda told: cheapest(told, told.devices, (3,) * len(told.devices)), quarrels, lambda told: Watch(told).coming(told.devices[0]),
        ]
        for devices, facts in small_books()[::9] + [(SIX, facts) for _, facts in great_books()[::12]]:
            one = book_of(devices, facts)
            two = Book("".join(list(one.text)))
            for call in calls:
                told = result_or_error(call, one)
                self.alike(told, result_or_error(call, two))
                self.alike(told, result_or_error(call, one))
            self.alike((facts, devices), (one.facts, one.devices))

    def test_refused_ones_raise_likewise(self):
        for error, call, arguments in REFUSED + MORE_REFUSED:
            values = []
            for _ in range(3):
                with self.assertRaises(WakeError) as held:
                    call(*arguments)
                self.assertIs(error, held.exception.__class__)
                values.append(held.exception.value)
            self.assertIs(values[0], values[1])
            self.assertIs(values[0], values[2])
            if error not in (BadBook, Full):
                self.assertTrue(any(values[0] is value for value in arguments))

    def test_after_what_was_refused_all_is_as_before(self):
        one = book()
        for fact in (None, ["stays"], ("stays", ["fan"])):
            self.refused(BadFact, fact, one.told, fact)
        self.refused(NoFact, 4, one.untold, 4)
        more = Rules(("fan", "lamp"))
        self.refused(OtherDevices, more, fits, one, more)
        self.alike(shape(book()), shape(one))
        self.alike("rules", possible(one)[0])

    def test_what_was_returned_can_be_handed_in(self):
        for devices, facts in small_books()[::5]:
            told = book_of(devices, facts)
            result = possible(told)
            self.is_true(shows_possible(told, result))
            if result[0] == "rules":
                for claim in all_facts(devices)[::3]:
                    for call, shows in ((judged, shows_judged), (either, shows_either)):
                        for claims in ((claim,), (claim, contrary(claim))):
                            self.is_true(shows(told, claims, call(told, claims)))
                self.is_true(fits(told, base(result[1])))
                self.is_true(of_rests(devices, own_rests(result[1])) == result[1])
                surely, perhaps = comes(told, devices[:1])
                self.alike(surely, comes(told, surely)[0])
                self.assertTrue(all(starters(told, lot) for lot in (surely, perhaps) + ends(told, ())))
                self.alike(surely, sure(told).rest(surely))
                self.is_true(shows_within(told, told, within(told, told)))
                self.is_true(shows_alike(told, told, alike(told, told)))
                self.is_true(read_journal(journal(Watch(told))) == Watch(told))


def result_or_error(call, told):
    """The shape of what the call returns, or the error it raises with what this keeps."""
    try:
        return shape(call(told))
    except WakeError as error:
        return (error.__class__.__name__, shape(error.value))


def call_or_error(call, told):
    """What the call returns, or the error it raises, with the text of the book if it keeps one."""
    try:
        return call(told, (("stays", ()),))
    except NoRules as error:
        return (error.__class__.__name__, error.value.text)


if __name__ == "__main__":
    unittest.main()
