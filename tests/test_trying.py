"""Promises 57 to 59, and 83: trials by which a claim is known, whatever is seen."""

import unittest
from functools import cache
from random import Random

from tests.cases import Case
from tests.known import fitting, loose_books, seen_to_end, small_barred, small_fitting, some_fit, wrong_lots
from tests.plain import SIX, all_lots, end, in_sequence, nested, odd_values, some_bundles
from tests.seen import all_facts, book_of, contrary, every_ends, great_books, is_integer, random_facts, shape, so_by, so_of
from tests.test_books import wrong_facts
from wakesothers.books import Book
from wakesothers.errors import BadClaim, BadOffers, NoRules
from wakesothers.judging import judged
from wakesothers.rules import Rules
from wakesothers.trying import shows_trials, trials

THREE = ("fan", "lamp", "pump")
FOUR = ("d", "a", "c", "b")
BOOK = Book("devices fan lamp pump\nwakes fan lamp > pump\nstays lamp\nstirs fan\nsleeps pump > lamp")
BARRED = BOOK.told(("stays", ("fan",)))
PUMPS, LAMPS = ("wakes", ("fan",), "pump"), ("wakes", ("fan",), "lamp")
OFFERS = ((("fan",), 2), (("pump",), 1))


def seen_of(found, offers, claim):
    """For each of the Rules where the offered lots rest, and whether the claim is so."""
    return {(tuple(told[lot] for lot, _ in offers), so_by(told, claim)) for _, told in found}


def left_of(seen, number, rest):
    return {one for one in seen if one[0][number] == rest}


def rests_of(seen, number):
    return sorted({rests[number] for rests, _ in seen})


def word_of(seen):
    words = {so for _, so in seen}
    return None if len(words) == 2 else "always" if True in words else "never"


def least_price(seen, offers, numbers):
    """The least price of a trial tree, or None if there is none."""
    if word_of(seen):
        return 0
    found = []
    for number in numbers:
        others = numbers - {number}
        told = [least_price(left_of(seen, number, rest), offers, others) for rest in rests_of(seen, number)]
        if None not in told:
            found.append(offers[number][1] + max(told))
    return min(found, default=None)


def price_of(seen, offers, numbers, tree):
    """The price of a right trial tree, or None if the value is none: a plain reading of section 13."""
    if not isinstance(tree, tuple) or len(tree) not in (2, 3):
        return None
    if len(tree) == 2:
        right = tree[0] == "known" and word_of(seen) is not None and tree[1] == word_of(seen)
        return 0 if right else None
    word, number, rows = tree
    if word != "try" or not is_integer(number) or number not in numbers or not isinstance(rows, tuple):
        return None
    if not all(isinstance(row, tuple) and len(row) == 2 for row in rows) or [row[0] for row in rows] != rests_of(seen, number):
        return None
    told = [price_of(left_of(seen, number, rest), offers, numbers - {number}, more) for rest, more in rows]
    return None if None in told else offers[number][1] + max(told)


def is_trials(found, offers, claim, value):
    seen, numbers = seen_of(found, offers, claim), frozenset(range(len(offers)))
    least = least_price(seen, offers, numbers)
    if least is None:
        return isinstance(value, tuple) and value == ()
    if not isinstance(value, tuple) or len(value) != 2 or not is_integer(value[0]) or value[0] != least:
        return False
    return price_of(seen, offers, numbers, value[1]) == least


def some_offers(devices, chance, many=None):
    lots = all_lots(devices)
    many = min(many or chance.choice((1, 2, 3)), len(lots))
    return tuple((lot, chance.choice((1, 1, 2, 3, 5, 9))) for lot in chance.sample(lots, many))


@cache
def cases():
    """Devices, facts, all Rules that fit, offers, and a claim."""
    chance = Random(41)
    found = []
    for devices, facts, rules in small_fitting():
        for _ in range(5):
            found.append((devices, facts, rules, some_offers(devices, chance), chance.choice(all_facts(devices))))
        # What is offered, is so likely to be asked, too.
        lot, price = chance.choice(all_lots(devices)), chance.choice((1, 9))
        claim = chance.choice([fact for fact in all_facts(devices) if fact[1] == lot])
        found.append((devices, facts, rules, ((lot, price),), claim))
    for at in range(25):
        facts = random_facts(FOUR, chance, 3 + at % 5)
        rules = fitting(FOUR, facts)
        if rules:
            for _ in range(3):
                found.append((FOUR, facts, rules, some_offers(FOUR, chance, 3), chance.choice(all_facts(FOUR))))
    for devices, facts, offers, claim in roundabout_cases(chance):
        found.append((devices, facts, fitting(devices, facts), offers, claim))
    return found


def roundabout_cases(chance):
    """Devices, facts, offers, and a claim that is known by several offers together.

    If something comes on beside a lot, and from the lot with each one of the others
    a certain device is on in the end, then this one is on from the lot itself.
    """
    found = []
    for at in range(60):
        devices = (("pump", "fan", "lamp"), FOUR, FOUR)[at % 3]
        lot = ((), (), (chance.choice(FOUR),))[at % 3]
        others = [name for name in devices if name not in lot]
        goal = others.pop(chance.randrange(len(others)))
        offers = [(in_sequence(devices, lot + (name,)), chance.choice((1, 2, 3, 5))) for name in others]
        if len(offers) < 3 and at % 2:
            offers.append((lot, chance.choice((1, 4, 9))))
        claim = (chance.choice(("wakes", "sleeps")), lot, goal)
        facts = (("stirs", lot),) + (("sleeps", (goal,), others[0]),) * (at % 4 == 0)
        found.append((devices, facts, tuple(chance.sample(offers, len(offers))), claim))
    return found


def other_values(value, offers, devices):
    """Values that are like this result, but for one place, or more."""
    if value == ():
        return [(), [], None, 0, (0,), (0, ("known", "always")), (0, ("known", "never")), ((),), (None,), "", {}, False, ((), ())]
    price, tree = value
    found = [value, list(value), value[::-1], value + (None,), value[:1], (tree,), tree, price, (), (value,), {price: tree}, None]
    found += [(told, tree) for told in (price + 1, price - 1, -price, str(price), None, (price,), True, False, 0, 1, float(price))]
    return found + [(price, more) for more in other_trees(tree, offers, devices)]


def other_trees(tree, offers, devices):
    found = [list(tree), tree + ((),), tree[:1], tree[::-1], (tree,), None, tree[0], (tree[0].upper(),) + tree[1:]]
    for word in ("always", "never", "open", None, True, "ALWAYS", ("always",), ["always"], ""):
        found.append(("known", word))
    if tree[0] == "known":
        for number in range(len(offers)):
            rows = tuple((lot, tree) for lot in sorted(all_lots(devices)))
            found += [("try", number, rows), ("try", number, ((offers[number][0], tree),)), ("try", number, ((devices, tree),)), ("try", number, ())]
        return found + [("try", tree[1]), ("tries", tree[1]), ("known",)]
    number, rows = tree[1:]
    found += [("try", told, rows) for told in (*range(-1, len(offers) + 1), True, False, None, str(number), (number,))]
    found += [("try", number, told) for told in (rows[::-1], list(rows), rows[1:], rows[:-1], rows + rows[:1], (), None, dict(rows))]
    for at, row in enumerate(rows):
        changed = [list(row), row[::-1], row[:1], row + row[:1], (list(row[0]), row[1]), (devices, row[1]), ((), row[1]), None]
        changed += [(rows[at - 1][0], row[1]), (row[0], rows[at - 1][1])]
        changed += [(row[0], other) for other in other_trees(row[1], offers, devices)]
        found += [("try", number, rows[:at] + (other,) + rows[at + 1 :]) for other in changed]
    return found


def tried_on(seen, tree, offers, numbers):
    """The tree with, wherever the claim is known, the cheapest offer that is left tried nevertheless."""
    if tree[0] == "known":
        if not numbers:
            return tree
        number = min(numbers, key=lambda told: offers[told][1])
        return ("try", number, tuple((rest, tree) for rest in rests_of(seen, number)))
    number = tree[1]
    rows = [(rest, tried_on(left_of(seen, number, rest), more, offers, numbers - {number})) for rest, more in tree[2]]
    return ("try", number, tuple(rows))


class Promise57(Case):
    def test_small_books(self):
        prices = []
        for devices, facts, found, offers, claim in cases():
            book = book_of(devices, facts)
            told = trials(book, offers, claim)
            self.is_true(is_trials(found, offers, claim, told), (facts, offers, claim, told))
            self.is_true(shows_trials(book, offers, claim, told))
            self.alike(told, trials(claim=claim, offers=tuple(list(offers)), book=Book(book.text)))
            prices.append((told[0] if told else None, told[1][0] if told else None, tries(told[1]) if told else 0))
        self.assertGreater(min(prices.count((None, None, 0)), prices.count((0, "known", 0))), 200)
        for many in (1, 2, 3):
            self.assertGreater(len([told for told in prices if told[2] == many]), 4, many)

    def test_each_lot_offered_tells_of_itself(self):
        for devices in (("a",), ("b", "a"), ("pump", "fan", "lamp"), SIX):
            book = book_of(devices, ())
            for claim in all_facts(devices)[:: 1 if len(devices) < 4 else 23]:
                price, tree = trials(book, ((claim[1], 7),), claim)
                known = claim[0] in ("stays", "stirs") and claim[1] == devices
                self.alike((0, "known") if known else (7, "try"), (price, tree[0]))

    def test_the_examples(self):
        tree = ("try", 0, ((THREE, ("known", "always")), (("fan", "pump"), ("known", "never"))))
        self.alike((2, tree), trials(BOOK, OFFERS, LAMPS))
        self.alike([(), (0, ("known", "always"))], [trials(BOOK, OFFERS[1:], LAMPS), trials(BOOK, OFFERS[1:], PUMPS)])
        self.alike((0, ("known", "never")), trials(BOOK, OFFERS, contrary(PUMPS)))

    def test_what_was_seen_counts_however_many(self):
        stays = [("stays", lot) for lot in all_lots(SIX) if len(lot) == 1] + [("stays", SIX), ("stays", ("a", "b"))]
        wakes = [("wakes", ("c", "d"), name) for name in "abef"] + [("wakes", ("a", "c"), name) for name in "bdef"]
        book = book_of(SIX, stays + wakes)
        price, tree = trials(book, ((("e", "f"), 4),), ("wakes", ("e", "f"), "a"))
        self.assertEqual(4, price)
        self.alike(tuple(sorted(row[0] for row in tree[2])), tuple(row[0] for row in tree[2]))
        self.assertIn(SIX, [row[0] for row in tree[2]])
        self.is_true(shows_trials(book, ((("e", "f"), 4),), ("wakes", ("e", "f"), "a"), (price, tree)))

    def test_one_offer_after_the_other(self):
        # Whether b wakes d is known by what a wakes, if a wakes b; otherwise b itself has to be tried.
        book = Book("devices a b d\nsleeps a > d\nstays")
        offers = ((("a",), 1), (("b",), 5))
        claim = ("wakes", ("b",), "d")
        price, tree = trials(book, offers, claim)
        self.assertEqual(5, price)
        self.is_true(shows_trials(book, offers, claim, (price, tree)))
        self.alike((), trials(book, offers[:1], claim))

    def test_no_rules(self):
        for devices, facts in small_barred():
            book = book_of(devices, facts)
            offers, claim = (((), 1),), ("stays", ())
            self.refused(NoRules, book, trials, book, offers, claim)
            self.refused(NoRules, book, trials, claim=claim, offers=offers, book=book)
            for value in ((), (0, ("known", "always")), None):
                self.refused(NoRules, book, shows_trials, book, offers, claim, value)

    def test_six_devices(self):
        chance = Random(42)
        prices = []
        for rules, facts in great_books()[::6] + loose_books()[1::9]:
            book = book_of(SIX, facts)
            claim = chance.choice([fact for fact in all_facts(SIX) if judged(book, (fact,))[0] == "open"])
            offers = ((claim[1], 4),) + tuple((lot, 1) for lot in chance.sample([lot for lot in all_lots(SIX) if lot != claim[1]], 2))
            told = trials(book, offers, claim)
            prices.append(told[0])
            self.assertTrue(1 <= told[0] <= 4)
            self.is_true(shows_trials(book, offers, claim, told))
            self.check_walk(rules, facts, offers, claim, told[1])
        self.assertGreater(len(prices), 10)

    def test_three_tries_of_six_devices(self):
        for lot in (("c",), ("a", "f")):
            others = [name for name in SIX if name not in lot][-4:]
            facts = tuple(("sleeps", lot, name) for name in SIX if name not in lot and name not in others)
            facts += (("stirs", lot),)
            claim = ("wakes", lot, others[0])
            offers = tuple((in_sequence(SIX, lot + (name,)), price) for name, price in zip(others[1:], (1, 3, 9)))
            book = book_of(SIX, facts)
            told = trials(book, offers, claim)
            self.assertEqual((13, 3), (told[0], tries(told[1])))
            self.is_true(shows_trials(book, offers, claim, told))
            self.is_false(shows_trials(book, offers, claim, (12, told[1])))
            self.alike((), trials(book, offers[1:], claim))
            # If it cannot have been one of the others, there is no need to try with it.
            sleeps = book.told(("sleeps", in_sequence(SIX, lot + (others[3],)), others[2]))
            self.alike(10, trials(sleeps, offers, claim)[0])
            for rows in (told[1][2][1:], told[1][2][::-1]):
                self.is_false(shows_trials(book, offers, claim, (13, told[1][:2] + (rows,))))

    def check_walk(self, rules, facts, offers, claim, tree):
        """Whoever has these rules comes to the word that is so by them; and each row can be."""
        while tree[0] == "try":
            lot = offers[tree[1]][0]
            for rest, _ in tree[2]:
                self.assertTrue(some_fit(SIX, facts + seen_to_end(lot, rest)))
            facts += seen_to_end(lot, end(SIX, rules.bundles, lot))
            tree = dict(tree[2])[end(SIX, rules.bundles, lot)]
        self.alike(("known", "always" if so_of(rules, claim) else "never"), tree)
        self.assertFalse(some_fit(SIX, facts + (contrary(claim) if so_of(rules, claim) else claim,)))


def tries(tree):
    """How many offers are tried on the longest way."""
    return 0 if tree[0] == "known" else 1 + max(tries(more) for _, more in tree[2])


class Promise58(Case):
    def shown(self, devices, facts, found, offers, claim, value):
        wanted = is_trials(found, offers, claim, value)
        told = shows_trials(book_of(devices, facts), offers, claim, value)
        self.assertIs(wanted, told, (facts, offers, claim, value))
        return told

    def test_what_is_like_right_results(self):
        chance = Random(43)
        right = 0
        for devices, facts, found, offers, claim in cases()[::5]:
            told = trials(book_of(devices, facts), offers, claim)
            values = other_values(told, offers, devices)
            for value in chance.sample(values, min(40, len(values))) + values[:1]:
                right += self.shown(devices, facts, found, offers, claim, value)
        self.assertGreater(right, 300)

    def test_other_trees_of_the_least_price(self):
        right = 0
        for devices, facts, found, offers, claim in cases():
            seen, numbers = seen_of(found, offers, claim), frozenset(range(len(offers)))
            told = trials(book_of(devices, facts), offers, claim)
            if told and told[1][0] == "try":
                more = tried_on(seen, told[1], offers, numbers)
                right += self.shown(devices, facts, found, offers, claim, (told[0], more))
                for at, row in enumerate(told[1][2]):
                    some = tried_on(left_of(seen, told[1][1], row[0]), row[1], offers, numbers - {told[1][1]})
                    rows = told[1][2][:at] + ((row[0], some),) + told[1][2][at + 1 :]
                    right += self.shown(devices, facts, found, offers, claim, (told[0], ("try", told[1][1], rows)))
        self.assertGreater(right, 30)

    def test_an_offer_tried_where_the_claim_is_known(self):
        book = Book("devices a b c\nsleeps a > b\nstays")
        claim = ("wakes", ("c",), "a")
        offers = ((("c",), 1), (("a",), 3), (("b",), 2))
        known = trials(book, offers, claim)
        self.alike(1, known[0])
        self.is_true(shows_trials(book, offers, claim, known))
        # It is right, but it costs more.
        rows = tuple((rest, ("try", 2, ())) for rest, _ in known[1][2])
        self.is_false(shows_trials(book, offers, claim, (1, ("try", 0, rows))))
        self.is_false(shows_trials(book, offers, claim, (3, ("try", 0, rows))))
        # Where less was paid than on another way, it costs nothing.
        two = Book("devices a b\nstays")
        claim = ("wakes", ("a",), "b")
        offers = ((("b",), 1), (("a",), 4))
        never, always = ("known", "never"), ("known", "always")
        direct = ("try", 1, ((("a",), never), (("a", "b"), always)))
        self.is_true(shows_trials(two, offers, claim, (4, direct)))
        longer = ("try", 1, ((("a",), ("try", 0, ((("a", "b"), never), (("b",), never)))), (("a", "b"), always)))
        self.is_false(shows_trials(two, offers, claim, (4, longer)))
        self.is_false(shows_trials(two, offers, claim, (5, longer)))

    def test_an_offer_tried_twice(self):
        book = Book("devices a b")
        offers, claim = ((("a",), 1),), ("wakes", ("a",), "b")
        never, always = ("known", "never"), ("known", "always")
        self.is_true(shows_trials(book, offers, claim, (1, ("try", 0, ((("a",), never), (("a", "b"), always))))))
        again = ("try", 0, ((("a",), ("try", 0, ((("a",), never),))), (("a", "b"), always)))
        for price in (1, 2):
            self.is_false(shows_trials(book, offers, claim, (price, again)))

    def test_by_hand(self):
        always, never = ("known", "always"), ("known", "never")
        right = ("try", 0, ((THREE, always), (("fan", "pump"), never)))
        self.is_true(shows_trials(BOOK, OFFERS, LAMPS, (2, right)))
        for price in (0, 1, 3, -2, "2", None, True, (2,), [2]):
            self.is_false(shows_trials(BOOK, OFFERS, LAMPS, (price, right)))
        for tree in (
            ("try", 0, ((THREE, never), (("fan", "pump"), always))), ("try", 0, ((THREE, always),)), ("try", 0, ((("fan", "pump"), never),)),
            ("try", 0, ((("fan", "pump"), never), (THREE, always))), ("try", 0, ((THREE, always), (("fan", "lamp"), never))),
            ("try", 0, ((THREE, always), (("fan",), never), (("fan", "pump"), never))), ("try", 1, ((THREE, always), (("fan", "pump"), never))),
            ("try", False, ((THREE, always), (("fan", "pump"), never))), always, never, ("known", "open"), right[:2], right + (None,),
            ["try", *right[1:]], ("try", 0, list(right[2])), ("try", 0, ((list(THREE), always), (("fan", "pump"), never))),
            ("try", 0, ((THREE, list(always)), (("fan", "pump"), never))), ("try", 2, right[2]), ("try", -2, right[2]),
        ):
            self.is_false(shows_trials(BOOK, OFFERS, LAMPS, (2, tree)))
        self.is_true(shows_trials(BOOK, OFFERS[1:], LAMPS, ()))
        for value in (None, [], 0, False, ((),), (0, never), (1, ("try", 0, ((("pump",), never),))), ""):
            self.is_false(shows_trials(BOOK, OFFERS[1:], LAMPS, value))
        self.is_true(shows_trials(BOOK, OFFERS, PUMPS, (0, always)))
        for value in ((False, always), (0, never), (0, list(always)), [0, always], (0, ("known", True)), (0, ("always", "known")), (), (1, always)):
            self.is_false(shows_trials(BOOK, OFFERS, PUMPS, value))
        # Both offers cost the same, but by the second one the claim is not known.
        same = ((("fan",), 1), (("pump",), 1))
        self.is_true(shows_trials(BOOK, same, LAMPS, (1, right)))
        for word in ("open", "always", "never"):
            rows = ((("fan", "pump"), never), (("pump",), ("known", word)))
            self.is_false(shows_trials(BOOK, same, LAMPS, (1, ("try", 1, rows))))
        one = (OFFERS[0][:1] + (1,),)
        self.is_true(shows_trials(BOOK, one, LAMPS, (1, right)))
        self.is_false(shows_trials(BOOK, one, LAMPS, (True, right)))

    def test_any_value(self):
        for value in odd_values() + [Rules(THREE), BOOK, (2, BOOK), (2, Rules(THREE)), nested((2, ("known", "always"))), (2, nested("try"))]:
            self.is_false(shows_trials(BOOK, OFFERS, LAMPS, value))
            self.assertIs(value == (), shows_trials(value=value, claim=LAMPS, offers=OFFERS[1:], book=BOOK))


class Promise59(Case):
    def wrong_offers(self):
        """Values that are no offers of fan, lamp, pump."""
        right = (("fan",), 1)
        found = odd_values() + [
            (), right, [right], ((("fan",), 1), (("fan",), 1)), ((("fan",), 1), (("fan",), 2)), ((("fan",), 0),), ((("fan",), 10),),
            ((("fan",), True),), ((("fan",), False),), ((("fan",), "1"),), ((("fan",), None),), ((("fan",), (1,)),), ((("fan",), -1),),
            (["fan", 1],), ([("fan",), 1],), ((("fan",),),), ((("fan",), 1, 1),), ((1, ("fan",)),), ((("lamp", "fan"), 1),), ((("fox",), 1),),
            (("fan", 1),), ((["fan"], 1),), {("fan",): 1}, tuple(((name,), 1) for name in THREE) + (((), 1),), (right, None), (right, ()),
            ((((), 1),),), nested(right), (((), 1), (("fan",), 1), (("lamp",), 1), (("pump",), 1)), (BOOK,), ((("fan",), 999999999),),
        ]
        for lot in wrong_lots():
            found += [((lot, 1),), (right, (lot, 1)), ((lot, 1), right)]
        return found

    def test_wrong_offers(self):
        for value in self.wrong_offers():
            for book in (BOOK, BARRED):
                for claim in (LAMPS, None, ["stays", ()]):
                    self.refused(BadOffers, value, trials, book, value, claim)
                    self.refused(BadOffers, value, trials, claim=claim, book=book, offers=value)
                    self.refused(BadOffers, value, shows_trials, book, value, claim, ())
                    self.refused(BadOffers, value, shows_trials, value=None, claim=claim, book=book, offers=value)

    def test_wrong_claims(self):
        for value in wrong_facts() + odd_values() + [(LAMPS,), (LAMPS, PUMPS), "stays fan", ("wakes", ("fan",), "fox"), ("stays", ("fox",))]:
            for book in (BOOK, BARRED):
                self.refused(BadClaim, value, trials, book, OFFERS, value)
                self.refused(BadClaim, value, trials, claim=value, book=book, offers=OFFERS)
                self.refused(BadClaim, value, shows_trials, book, OFFERS, value, (2, ("known", "always")))
                self.refused(BadClaim, value, shows_trials, value=(), claim=value, book=book, offers=OFFERS)

    def test_no_rules_come_last(self):
        self.refused(NoRules, BARRED, trials, BARRED, OFFERS, LAMPS)
        self.refused(NoRules, BARRED, shows_trials, BARRED, OFFERS, LAMPS, None)

    def test_prices_at_their_bounds(self):
        for price in range(1, 10):
            self.alike(price, trials(BOOK, ((("fan",), price),), LAMPS)[0])
        for price in (-1, 0, 10, 11, True, False, 99, "1"):
            offers = ((("fan",), price),)
            self.refused(BadOffers, offers, trials, BOOK, offers, LAMPS)

    def test_one_offer_to_three(self):
        lots = [("fan",), (), THREE, ("pump",)]
        for many in range(5):
            offers = tuple((lot, 3) for lot in lots[:many])
            if 1 <= many <= 3:
                self.alike(3, trials(BOOK, offers, LAMPS)[0])
            else:
                self.refused(BadOffers, offers, trials, BOOK, offers, LAMPS)


class Promise83(Case):
    def test_by_all_rules_that_fit(self):
        none = 0
        for devices, facts, found, offers, claim in cases()[::2]:
            told = trials(book_of(devices, facts), offers, claim)
            rows = {}
            for _, ends in found:
                rows.setdefault(tuple(ends[lot] for lot, _ in offers), set()).add(so_by(ends, claim))
            self.assertIs(told == (), any(len(so) == 2 for so in rows.values()))
            none += told == ()
            for rests, so in rows.items() if told else []:
                tree = told[1]
                spent = 0
                while tree[0] == "try":
                    spent += offers[tree[1]][1]
                    tree = dict(tree[2])[rests[tree[1]]]
                self.alike(("known", "always" if True in so else "never"), tree)
                self.assertLessEqual(spent, told[0])
        self.assertGreater(none, 100)

    def test_of_four_devices(self):
        chance = Random(44)
        self.assertEqual(2480, len(every_ends(FOUR)))
        priced = 0
        for at in range(12):
            rules = Rules(FOUR, some_bundles(FOUR, 3 + at % 3, at))
            facts = tuple(fact for fact in random_facts(FOUR, chance, 20) if so_of(rules, fact))[: 4 + at % 5]
            found = fitting(FOUR, facts)
            for _ in range(4):
                offers, claim = some_offers(FOUR, chance, 3), chance.choice(all_facts(FOUR))
                told = trials(book_of(FOUR, facts), offers, claim)
                self.is_true(is_trials(found, offers, claim, told))
                priced += told != () and told[0] > 0
        self.assertGreater(priced, 3)

    def test_equal_calls(self):
        for devices, facts, _, offers, claim in cases()[::10]:
            one, other = book_of(devices, facts), Book(book_of(devices, facts).text)
            self.alike(trials(one, offers, claim), trials(other, offers, claim))
            self.alike(shape(one), shape(other))


if __name__ == "__main__":
    unittest.main()
