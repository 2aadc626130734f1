"""Promise 85: a house lived through, by rules that nobody saw."""

import unittest
from random import Random

from tests.cases import Case
from tests.known import seen_to_end
from tests.plain import SIX, end, has_within, in_sequence, some_bundles
from tests.seen import MOST, all_facts, so_of
from wakesothers.books import Book
from wakesothers.comparing import within
from wakesothers.errors import Full
from wakesothers.fitting import fits
from wakesothers.journals import journal, read_journal
from wakesothers.rules import Rules
from wakesothers.surely import comes, ends, outer, sure
from wakesothers.watches import Watch


def houses():
    found = []
    for seed in range(14):
        devices = (SIX, ("lamp", "fan", "pump"), ("d", "b", "a", "c"))[seed % 3]
        found.append(Rules(devices, some_bundles(devices, 2 + seed % 5, 900 + seed)))
    return found


def is_full(book, facts):
    """The number of which there would be too many, or None."""
    told = list(book.facts)
    for fact in facts:
        if fact not in told:
            if len([one for one in told if one[0] == fact[0]]) == MOST[fact[0]]:
                return MOST[fact[0]]
            told.append(fact)
    return None


class Promise85(Case):
    def do(self, watch, facts, deed):
        """Does the deed, which tells these facts: it is taken, or the book is full of them."""
        many = is_full(watch.book, facts)
        if many is None:
            self.assertIsNone(deed())
            return True
        before = (watch.book.text, watch.on, watch.done, journal(watch))
        with self.assertRaises(Full) as held:
            deed()
        self.alike(many, held.exception.value)
        self.assertEqual(before, (watch.book.text, watch.on, watch.done, journal(watch)))
        return False

    def live(self, watch, rules, chance):
        """One deed as the rules let it be."""
        devices = rules.devices
        word = chance.choice(("put", "put", "put", "put", "tell", "drop", "off", "undo"))
        left = [name for name in devices if name not in watch.on]
        if word == "put" and left:
            device = chance.choice(left)
            lot = in_sequence(devices, watch.on + (device,))
            rest = end(devices, rules.bundles, lot)
            came = in_sequence(devices, set(rest) - set(lot))
            self.assertIn(came, watch.coming(device))
            surely, perhaps = comes(watch.book, lot)
            self.assertTrue(has_within(rest, surely) and has_within(perhaps, rest))
            self.assertIn(rest, ends(watch.book, lot))
            if self.do(watch, seen_to_end(lot, rest), lambda: watch.put(device, came)):
                self.alike(rest, watch.on)
                self.alike((rest, rest), comes(watch.book, lot))
        elif word == "tell":
            fact = chance.choice([fact for fact in all_facts(devices) if so_of(rules, fact)])
            self.do(watch, (fact,), lambda: watch.tell(fact))
        elif word == "drop" and len(watch.book) > 4:
            watch.drop(chance.randrange(len(watch.book)))
        elif word == "undo" and watch.done:
            watch.undo()
            if chance.random() < 0.5:
                watch.redo()
        else:
            watch.off()

    def check(self, watch, rules, chance):
        self.is_true(fits(watch.book, rules))
        self.is_true(sure(watch.book).is_within(rules))
        self.is_true(rules.is_within(outer(watch.book)))
        for fact in chance.sample(all_facts(rules.devices), 3):
            self.assertNotEqual("never" if so_of(rules, fact) else "always", watch.judged((fact,)))

    def test_two_watches(self):
        for at, rules in enumerate(houses()):
            chance = Random(1000 + at)
            start = Book("devices " + " ".join(rules.devices))
            one, other = Watch(start), Watch(start)
            for deed in range(24):
                self.live((one, other)[deed % 2], rules, chance)
                if deed % 4 == 3:
                    self.check(one, rules, chance)
                    self.check(other, rules, chance)
                    with one.trial():
                        self.live(one, rules, chance)
            for watch in (one, other):
                again = read_journal(journal(watch))
                self.is_true(again == watch)
                self.alike((watch.book.text, watch.on), (again.book.text, again.on))
            if is_full(one.book, other.book.facts) is None:
                together = one.book | other.book
                self.is_true(fits(together, rules))
                self.alike(["within", "within"], [within(together, book)[0] for book in (one.book, other.book)])


if __name__ == "__main__":
    unittest.main()
