"""Promises 61 to 71: a watch, what is done on it, taken back and tried."""

import unittest
from random import Random

from tests.cases import Case
from tests.day import Day, both, some_deed
from tests.known import loose_books, random_contraries, seen_to_end, small_barred, small_fitting, some_fit, word_of, wrong_lots
from tests.plain import SIX, all_lots, end, has_within, in_sequence, odd_values, some_bundles
from tests.seen import SMALL, all_facts, book_of, contrary, every_ends, great_books, is_tree, random_facts, shape, so_of, tight_books
from tests.test_books import wrong_facts
from wakesothers.books import Book
from wakesothers.errors import BadClaims, BadDevice, BadFact, BadLot, Contrary, Full, IsOn, NoFact, NoRules, NothingToRedo
from wakesothers.errors import NothingToUndo, NoTrial, WakeError
from wakesothers.journals import journal, read_journal
from wakesothers.judging import judged
from wakesothers.rules import Rules
from wakesothers.surely import comes, ends
from wakesothers.watches import Watch

THREE = ("fan", "lamp", "pump")
BOOK = Book("devices fan lamp pump\nwakes fan lamp > pump\nstays lamp\nstirs fan\nsleeps pump > lamp")
BARRED = BOOK.told(("stays", ("fan",)))
PUMPS, LAMPS = ("wakes", ("fan",), "pump"), ("wakes", ("fan",), "lamp")


def state(watch):
    """All that can be told of a watch, also of what can be undone and done again."""
    other = watch.copy()
    rows = [seen(other)]
    back = 0
    try:
        while True:
            other.redo()
            rows.append(seen(other))
    except NothingToRedo:
        rows.append("redone")
    try:
        while True:
            other.undo()
            rows.append(seen(other))
            back += 1
    except NothingToUndo:
        rows.append(back)
    return rows


def seen(watch):
    return (watch.book.text, watch.on, watch.done, journal(watch))


class Lead(Case):
    """Leads a watch and a plain day beside each other."""

    def alike_now(self, watch, day):
        self.alike(day.facts, watch.book.facts)
        self.alike(day.devices, watch.book.devices)
        self.alike(day.on, watch.on)
        self.alike(len(day.moments) - 1, watch.done)
        self.alike("\n".join(day.lines()), journal(watch))

    def do(self, watch, day, word, arguments):
        """Does one deed on both; returns the error that is due, or None."""
        before = state(watch)
        due = getattr(day, word)(*arguments)
        if due is None:
            self.assertIsNone(getattr(watch, word)(*arguments))
        else:
            with self.assertRaises(WakeError, msg=(word, arguments)) as held:
                getattr(watch, word)(*arguments)
            self.assertIs(due[0], held.exception.__class__)
            if due[0] is Contrary:
                self.is_true(is_tree(day.devices, due[1], held.exception.value))
            else:
                self.alike(due[1], held.exception.value)
            self.assertEqual(before, state(watch))
        self.alike_now(watch, day)
        return due and due[0]


def some_starts():
    """Devices and facts with which a watch can begin."""
    found = [(devices, facts) for devices, facts, _ in small_fitting()[::9]]
    return found + [(SIX, facts) for _, facts in loose_books()[::8] + great_books()[::16]]


class Promise61(Lead):
    def test_days_by_chance(self):
        due = []
        for at, (devices, facts) in enumerate(some_starts()):
            chance = Random(at)
            watch, day = both(devices, facts)
            self.alike_now(watch, day)
            for _ in range(30):
                due.append(self.do(watch, day, *some_deed(day, chance)))
        for error in (None, Full, Contrary, IsOn, NoFact, NothingToUndo, NothingToRedo):
            self.assertGreater(due.count(error), 10, error)

    def test_at_first_nothing_is_on(self):
        for devices, facts in some_starts():
            watch = Watch(book_of(devices, facts))
            self.alike(((), 0, facts), (watch.on, watch.done, watch.book.facts))
        # Whatever comes on from ().
        self.alike((), Watch(Book("devices a\nwakes > a")).on)

    def test_the_example(self):
        watch = Watch(BOOK)
        self.alike((("lamp", "pump"), ("pump",)), watch.coming("fan"))
        self.assertIsNone(watch.put("fan", ("pump",)))
        self.alike(("fan", "pump"), watch.on)
        self.alike((PUMPS, ("stays", ("fan", "pump"))), watch.book.facts[4:])
        self.alike("never", watch.judged((LAMPS,)))
        self.alike(((),), watch.coming("lamp"))

    def test_full_comes_ahead_of_contrary(self):
        facts = [("stays", lot) for lot in all_lots(THREE)]
        watch, day = both(THREE, facts)
        self.alike(Contrary, self.do(watch, day, "tell", (("wakes", (), "fan"),)))
        self.alike(None, self.do(watch, day, "put", ("fan", ())))
        self.alike(Contrary, self.do(watch, day, "put", ("lamp", ("pump",))))
        full, led = both(SIX, [("stays", lot) for lot in all_lots(SIX)[:8]])
        self.alike(Full, self.do(full, led, "put", ("a", ("b", "c", "d", "e", "f"))))
        self.alike(Full, self.do(full, led, "tell", (("stays", ("b", "f")),)))
        self.alike(None, self.do(full, led, "put", ("a", ())))
        self.alike(Contrary, self.do(full, led, "tell", (("stirs", ("b",)),)))
        self.alike(Full, self.do(full, led, "put", ("f", ())))

    def test_as_many_facts_as_there_can_be(self):
        for rules, facts in great_books()[::4]:
            watch, day = both(SIX, facts)
            for fact in facts[:3]:
                self.alike(None, self.do(watch, day, "tell", (fact,)))
            for kind in ("stays", "stirs", "wakes", "sleeps"):
                fact = next(fact for fact in all_facts(SIX) if fact[0] == kind and fact not in facts)
                self.alike(Full, self.do(watch, day, "tell", (fact,)))
            self.alike(None, self.do(watch, day, "drop", (26,)))
            self.alike(None, self.do(watch, day, "undo", ()))


class Promise62(Case):
    def check(self, watch, error, value, word, *arguments):
        before = state(watch)
        self.refused(error, value, getattr(watch, word), *arguments)
        self.assertEqual(before, state(watch))

    def test_no_rules(self):
        for book in [BARRED] + tight_books() + [book_of(devices, facts) for devices, facts in small_barred()[::3]]:
            self.refused(NoRules, book, Watch, book)
            self.refused(NoRules, book, Watch, book=book)

    def test_tell(self):
        watch = Watch(BOOK)
        for value in wrong_facts():
            self.check(watch, BadFact, value, "tell", value)
        full = Watch(book_of(THREE, [("stirs", ()), ("stirs", ("fan",)), ("stirs", ("lamp",))]))
        for value in (("stirs", ["pump"]), ("stirs", ("fox",)), ("stirs", ("lamp", "fan"))):
            self.check(full, BadFact, value, "tell", value)
        with self.assertRaises(Full) as held:
            full.tell(("stirs", THREE))
        self.alike(3, held.exception.value)
        with self.assertRaises(Contrary) as held:
            full.tell(("stays", ()))
        self.is_true(is_tree(THREE, full.book.facts + (("stays", ()),), held.exception.value))
        self.assertIsNone(full.tell(("stirs", ())))
        self.alike(1, full.done)
        self.alike(3, len(full.book))

    def test_a_fact_that_is_told_already_is_a_deed(self):
        watch = Watch(BOOK)
        for many in range(1, 4):
            watch.tell(BOOK.facts[2])
            self.alike((many, BOOK.text), (watch.done, watch.book.text))
        self.alike("seen\nstirs fan\nstirs fan\nstirs fan", journal(watch)[len(BOOK.text) + 1 :])
        watch.undo()
        self.alike(2, watch.done)

    def test_drop(self):
        watch = Watch(BOOK)
        for value in (4, -1, -4, True, False, None, "0", (0,), [0], {}, 10, 999999999, "stays lamp", BOOK, ("stays", ("lamp",))):
            self.check(watch, NoFact, value, "drop", value)
        watch.drop(1)
        self.alike(BOOK.untold(1).text, watch.book.text)
        self.check(watch, NoFact, 3, "drop", 3)
        for _ in range(3):
            watch.drop(0)
        self.check(watch, NoFact, 0, "drop", 0)
        self.alike(("devices fan lamp pump", 4), (watch.book.text, watch.done))

    def test_put(self):
        watch = Watch(BOOK)
        names = [value for value in odd_values() if value != "fan"] + ["fox", "FAN", "fan ", ("fan",), ["lamp"], THREE, BOOK]
        for value in names:
            for came in ((), ("pump",), ("fox",), None, ["pump"], "pump"):
                self.check(watch, BadDevice, value, "put", value, came)
        for value in wrong_lots() + odd_values():
            if value != ():
                self.check(watch, BadLot, value, "put", "fan", value)
        for value in (("fan",), ("fan", "lamp"), ("fan", "pump"), THREE):
            self.check(watch, BadLot, value, "put", "fan", value)
        watch.put("fan", ("pump",))
        for came in ((), ("lamp",), ("fox",), None, ["lamp"], ("lamp", "fan")):
            self.check(watch, IsOn, "fan", "put", "fan", came)
            self.check(watch, IsOn, "pump", "put", "pump", came)
            self.check(watch, BadDevice, "fox", "put", "fox", came)
        for value in (("fan",), ("pump",), ("lamp",), ("fan", "pump"), ("lamp", "pump"), ["fan"], None):
            self.check(watch, BadLot, value, "put", "lamp", value)
        watch.put("lamp", ())
        self.alike((THREE, 2), (watch.on, watch.done))

    def test_put_full_and_contrary(self):
        stays = [("stays", lot) for lot in (("b",), ("c",), ("d",), ("e",), ("f",), ("b", "c"), ("b", "d"), ("b", "e"))]
        watch = Watch(book_of(SIX, stays))
        for came in ((), ("b",), ("b", "c", "d", "e", "f")):
            with self.assertRaises(Full) as held:
                watch.put("a", came)
            self.alike(8, held.exception.value)
        wakes = [("wakes", SIX[:4], "e"), ("wakes", SIX[:4], "f")] + [("wakes", SIX[1:4], name) for name in "aef"]
        watch = Watch(book_of(SIX, wakes + [("sleeps", ("a",), "f")]))
        with self.assertRaises(Full) as held:
            watch.put("a", ("b", "c", "d", "e"))
        self.alike((8, (), 0), (held.exception.value, watch.on, watch.done))
        with self.assertRaises(Contrary) as held:
            watch.put("a", ("d", "e", "f"))
        facts = watch.book.facts + seen_to_end(("a",), ("a", "d", "e", "f"))
        self.is_true(is_tree(SIX, facts, held.exception.value))
        watch.put("a", ("d", "e"))
        self.alike(("a", "d", "e"), watch.on)

    def test_some_facts_of_a_put_are_there(self):
        wakes = [("wakes", ("a",), name) for name in "bcdef"] + [("wakes", ("b",), name) for name in "cde"]
        stays = [("stays", SIX)] + [("stays", lot) for lot in (("c",), ("d",), ("e",), ("f",), ("c", "d"), ("c", "e"), ("c", "f"))]
        watch = Watch(book_of(SIX, wakes + stays))
        watch.put("a", SIX[1:])
        self.alike((SIX, 1, len(wakes + stays)), (watch.on, watch.done, len(watch.book)))
        watch.off()
        with self.assertRaises(Full):
            watch.put("b", ("c", "d", "e"))


class Promise63(Lead):
    def test_undo_and_redo(self):
        for at, (devices, facts) in enumerate(some_starts()[::3]):
            chance = Random(100 + at)
            watch, day = both(devices, facts)
            moments = [seen(watch)]
            while len(moments) < 8:
                word, arguments = some_deed(day, chance)
                if word not in ("undo", "redo") and self.do(watch, day, word, arguments) is None:
                    moments.append(seen(watch))
            for moment in moments[-2::-1]:
                self.assertIsNone(watch.undo())
                self.assertEqual(moment, seen(watch))
            self.refused(NothingToUndo, None, watch.undo)
            for moment in moments[1:]:
                self.assertIsNone(watch.redo())
                self.assertEqual(moment, seen(watch))
            self.refused(NothingToRedo, None, watch.redo)

    def test_a_deed_ends_what_could_be_done_again(self):
        for deed in (lambda one: one.off(), lambda one: one.tell(BOOK.facts[0]), lambda one: one.drop(0), lambda one: one.put("lamp", ())):
            watch = Watch(BOOK)
            watch.off()
            watch.tell(("stays", ()))
            watch.undo()
            watch.undo()
            deed(watch)
            self.refused(NothingToRedo, None, watch.redo)
            watch.undo()
            self.alike(0, watch.done)
            watch.redo()
            self.alike(1, watch.done)

    def test_what_is_refused_or_asked_does_not(self):
        watch = Watch(BOOK)
        watch.put("fan", ("pump",))
        watch.undo()
        for call in (
            lambda: watch.tell(None), lambda: watch.drop(9), lambda: watch.put("fox", ()), lambda: watch.put("fan", ()),
            lambda: watch.tell(("stays", ("fan",))), watch.undo, watch.keep, lambda: watch.coming("fox"), lambda: watch.judged(()),
        ):
            self.assertRaises(WakeError, call)
        watch.coming("fan")
        watch.judged((LAMPS,))
        watch.copy().off()
        with watch.trial():
            watch.off()
        watch.redo()
        self.alike((("fan", "pump"), 1), (watch.on, watch.done))

    def test_nothing_to_undo_or_redo(self):
        for watch in (Watch(BOOK), Watch(Book("devices a"))):
            self.refused(NothingToUndo, None, watch.undo)
            self.refused(NothingToRedo, None, watch.redo)
            watch.off()
            self.refused(NothingToRedo, None, watch.redo)
            watch.undo()
            self.refused(NothingToUndo, None, watch.undo)
            watch.redo()
            self.refused(NothingToRedo, None, watch.redo)


class Oops(Exception):
    pass


class Promise64(Case):
    def led(self):
        """A watch with deeds that stand, and deeds that can be done again."""
        watch = Watch(BOOK)
        watch.put("fan", ("pump",))
        watch.tell(("stays", ()))
        watch.off()
        watch.undo()
        return watch

    def test_behind_a_block_all_is_as_it_was(self):
        for lead in (
            lambda watch: None, lambda watch: watch.off(), lambda watch: watch.undo(), lambda watch: watch.redo(),
            lambda watch: (watch.undo(), watch.undo()), lambda watch: (watch.drop(0), watch.drop(0), watch.undo()),
            lambda watch: (watch.put("lamp", ()), watch.off(), watch.put("lamp", ())), lambda watch: (watch.undo(), watch.off()),
        ):
            watch = self.led()
            before = state(watch)
            with watch.trial() as held:
                self.assertIs(watch, held)
                lead(watch)
                inside = state(watch)
            self.assertEqual(before, state(watch))
            with watch.trial():
                lead(watch)
                self.assertIsNone(watch.keep())
            self.assertEqual(inside, state(watch))

    def test_keep_may_be_called_ahead_of_deeds_and_twice(self):
        watch = self.led()
        with watch.trial():
            watch.keep()
            watch.off()
            watch.keep()
            watch.drop(0)
        self.alike(((), 4), (watch.on, watch.done))

    def test_an_error_that_leaves_it(self):
        for kept in (False, True):
            watch = self.led()
            before = state(watch)
            with self.assertRaises(Oops):
                with watch.trial():
                    watch.off()
                    if kept:
                        watch.keep()
                    raise Oops
            self.assertEqual(before, state(watch))
            with self.assertRaises(BadFact):
                with watch.trial() as held:
                    held.undo()
                    watch.keep()
                    watch.tell(None)
            self.assertEqual(before, state(watch))
            self.refused(NoTrial, None, watch.keep)

    def test_an_error_that_does_not_leave_it(self):
        watch = self.led()
        with watch.trial():
            watch.off()
            self.assertRaises(BadFact, watch.tell, None)
            watch.keep()
        self.alike(3, watch.done)

    def test_keep_outside(self):
        watch = self.led()
        self.refused(NoTrial, None, watch.keep)
        trial = watch.trial()
        self.refused(NoTrial, None, watch.keep)
        with trial:
            watch.keep()
        self.refused(NoTrial, None, watch.keep)

    def test_what_was_done_ahead_of_entering_stays(self):
        watch = Watch(BOOK)
        trial = watch.trial()
        watch.off()
        with trial:
            watch.off()
        self.alike(1, watch.done)

    def test_blocks_in_one_another(self):
        for inner in (False, True):
            for outer in (False, True):
                watch = self.led()
                before = state(watch)
                with watch.trial():
                    watch.off()
                    middle = state(watch)
                    with watch.trial():
                        watch.put("lamp", ())
                        inside = state(watch)
                        if inner:
                            watch.keep()
                    self.assertEqual(inside if inner else middle, state(watch))
                    if outer:
                        watch.keep()
                wanted = (inside if inner else middle) if outer else before
                self.assertEqual(wanted, state(watch))

    def test_keep_belongs_to_the_innermost_block(self):
        watch = self.led()
        before = state(watch)
        with watch.trial():
            watch.keep()
            with watch.trial():
                watch.off()
            self.assertEqual(before, state(watch))
            watch.off()
        self.alike(3, watch.done)
        watch.undo()
        with watch.trial():
            with watch.trial():
                with watch.trial():
                    watch.off()
                    watch.keep()
                watch.keep()
            self.alike(3, watch.done)
        self.alike(2, watch.done)

    def test_an_error_leaves_the_inner_block_only(self):
        watch = self.led()
        with watch.trial():
            watch.off()
            with self.assertRaises(Oops):
                with watch.trial():
                    watch.keep()
                    watch.off()
                    raise Oops
            self.alike(3, watch.done)
            watch.keep()
        self.alike(3, watch.done)

    def test_tried(self):
        watch = self.led()
        before = state(watch)
        for value in (None, 1, "told", (1, [2]), [watch]):
            self.assertIs(value, watch.tried(lambda told: (told.off(), value)[1]))
            self.assertEqual(before, state(watch))
        self.assertIs(watch, watch.tried(lambda told: told))
        self.assertEqual(("fan", "pump"), watch.tried(lambda told: (told.put("lamp", ()), told.undo(), told.on)[2]))
        self.assertEqual(before, state(watch))

    def test_tried_kept_just_if_keep_is_true(self):
        for value in (False, 1, 0, None, "True", (True,), [True], "keep", {True: True}, 1.0):
            watch = self.led()
            before = state(watch)
            watch.tried(lambda told: told.off(), keep=value)
            self.assertEqual(before, state(watch))
        watch = self.led()
        self.assertEqual(3, watch.tried(lambda told: (told.off(), told.done)[1], keep=True))
        self.assertEqual((3, ()), (watch.done, watch.on))
        watch.tried(lambda told: (told.off(), told.keep()))
        self.assertEqual(4, watch.done)
        watch.tried(look=lambda told: (told.off(), told.keep()), keep=False)
        self.assertEqual(5, watch.done)
        self.assertRaises(TypeError, watch.tried, lambda told: None, True)

    def test_tried_passes_errors_on(self):
        watch = self.led()
        before = state(watch)

        def look(told):
            told.off()
            told.keep()
            raise Oops

        for keep in (False, True):
            self.assertRaises(Oops, watch.tried, look, keep=keep)
            self.assertEqual(before, state(watch))
            self.refused(NoTrial, None, watch.keep)
        self.refused(NoFact, 99, watch.tried, lambda told: told.drop(99))

    def test_tried_in_blocks(self):
        watch = self.led()
        with watch.trial():
            watch.tried(lambda told: told.off(), keep=True)
            self.assertEqual(3, watch.done)
            watch.tried(lambda told: told.tried(lambda more: more.off(), keep=True))
            self.assertEqual(3, watch.done)

            def look(told):
                with told.trial():
                    told.off()
                    told.keep()
                return told.done

            self.assertEqual(4, watch.tried(look))
            self.assertEqual(3, watch.done)
        self.assertEqual(2, watch.done)

    def test_a_copy_is_outside_of_all_blocks(self):
        watch = self.led()
        with watch.trial():
            watch.off()
            other = watch.copy()
            self.refused(NoTrial, None, other.keep)
            other.off()
            self.alike((3, 4), (watch.done, other.done))
            with other.trial():
                other.keep()
                other.off()
        self.alike((2, 5), (watch.done, other.done))

    def test_undo_within_a_block_takes_deeds_ahead_of_it_back(self):
        watch = self.led()
        with watch.trial():
            watch.undo()
            watch.undo()
            self.refused(NothingToUndo, None, watch.undo)
            self.alike(((), 0), (watch.on, watch.done))
            watch.keep()
        self.alike(0, watch.done)
        watch.redo()
        self.alike((("fan", "pump"), 1), (watch.on, watch.done))
        with watch.trial():
            watch.undo()
        self.alike(1, watch.done)
        watch.redo()
        watch.redo()
        self.refused(NothingToRedo, None, watch.redo)
        self.alike(((), 3), (watch.on, watch.done))

    def test_two_watches_have_blocks_of_their_own(self):
        one, other = self.led(), self.led()
        with one.trial():
            self.refused(NoTrial, None, other.keep)
            with other.trial():
                one.off()
                other.off()
                other.off()
                one.keep()
        self.alike((3, 2), (one.done, other.done))


class Promise65(Lead):
    def test_copies_are_alike_and_independent(self):
        for at, (devices, facts) in enumerate(some_starts()[::2]):
            chance = Random(200 + at)
            watch, day = both(devices, facts)
            for _ in range(12):
                self.do(watch, day, *some_deed(day, chance))
            other, led = watch.copy(), day.copy()
            self.assertIsNot(watch, other)
            self.assertEqual(state(watch), state(other))
            self.is_true(watch == other)
            before = state(watch)
            for _ in range(12):
                self.do(other, led, *some_deed(led, chance))
            self.assertEqual(before, state(watch))
            after = state(other)
            for _ in range(6):
                self.do(watch, day, *some_deed(day, chance))
            self.assertEqual(after, state(other))

    def test_what_can_be_done_again_is_copied_too(self):
        watch = Watch(BOOK)
        watch.put("fan", ("pump",))
        watch.off()
        watch.undo()
        watch.undo()
        other = watch.copy()
        watch.off()
        other.redo()
        self.alike(("fan", "pump"), other.on)
        other.redo()
        self.refused(NothingToRedo, None, other.redo)
        self.alike(2, other.done)

    def test_equal_just_if_journals_are(self):
        watches = []
        for deeds in ("", "off", "off\noff", "stays", "stirs fan", "put fan : pump", "put fan : pump\noff", "drop 0", "drop 1", "drop 2"):
            for book in (BOOK, BOOK.told(("stays", ())), Book("devices fan lamp pump")):
                text = book.text + "\nseen" + ("\n" + deeds if deeds else "")
                try:
                    watches += [read_journal(text), read_journal(text).copy()]
                except WakeError:
                    continue
        self.assertGreater(len(watches), 40)
        for one in watches:
            for other in watches:
                self.assertIs(journal(one) == journal(other), one == other)
                self.assertIs(journal(one) != journal(other), one != other)

    def test_the_same_book_is_not_enough(self):
        one, other = Watch(BOOK), Watch(BOOK)
        self.is_true(one == other)
        one.tell(BOOK.facts[0])
        self.is_false(one == other)
        one.undo()
        self.is_true(one == other)
        one.redo()
        other.tell(BOOK.facts[0])
        self.is_true(one == other)
        two = Watch(BOOK.told(("stays", ())))
        more = Watch(BOOK)
        more.tell(("stays", ()))
        self.assertEqual(two.book, more.book)
        self.is_false(two == more)

    def test_equal_to_nothing_else(self):
        watch = Watch(BOOK)
        for value in odd_values() + [BOOK, BOOK.text, journal(watch), (watch,), [watch], Rules(THREE), Day(THREE, BOOK.facts)]:
            self.is_false(watch == value)
            self.is_true(watch != value)


class Promise66(Case):
    def test_small_books(self):
        for devices, facts, found in small_fitting()[::2]:
            watch = Watch(book_of(devices, facts))
            before = state(watch)
            for device in devices:
                wanted = tuple(sorted({in_sequence(devices, set(told[(device,)]) - {device}) for _, told in found}))
                self.alike(wanted, watch.coming(device))
                self.alike(wanted, watch.coming(device=device))
            self.assertEqual(before, state(watch))

    def test_beside_what_is_on(self):
        many = 0
        for at, (devices, facts) in enumerate(some_starts()):
            chance = Random(300 + at)
            watch = Watch(book_of(devices, facts))
            for _ in range(4):
                left = [name for name in devices if name not in watch.on]
                if not left:
                    break
                device = chance.choice(left)
                lot = in_sequence(devices, watch.on + (device,))
                told = watch.coming(device)
                for came in all_lots(devices):
                    if not set(came) & set(lot) and (len(devices) < 6 or chance.random() < 0.4):
                        rest = in_sequence(devices, lot + came)
                        self.assertIs(some_fit(devices, watch.book.facts + seen_to_end(lot, rest)), came in told)
                        many += came in told
                try:
                    watch.put(device, chance.choice(told))
                except Full:
                    break
        self.assertGreater(many, 150)

    def test_as_many_facts_as_there_can_be(self):
        for rules, facts in great_books()[::3]:
            watch = Watch(book_of(SIX, facts))
            self.assertEqual(27, len(watch.book))
            for device in SIX[::2]:
                told = watch.coming(device)
                self.assertIn(in_sequence(SIX, set(end(SIX, rules.bundles, (device,))) - {device}), told)
                self.alike(tuple(sorted(told)), told)

    def test_wrong_devices(self):
        watch = Watch(BOOK)
        for value in odd_values() + ["fox", ("fan",), THREE, "FAN", "fan lamp"]:
            if value != "fan":
                self.refused(BadDevice, value, watch.coming, value)
        watch.put("fan", ("pump",))
        for name in ("fan", "pump"):
            self.refused(IsOn, name, watch.coming, name)
        self.refused(BadDevice, "fox", watch.coming, "fox")
        self.alike(((),), watch.coming("lamp"))

    def test_ascending_without_what_is_on(self):
        watch = Watch(Book("devices c b a"))
        watch.put("b", ())
        self.alike(((), ("c",)), watch.coming("a"))
        self.alike(((), ("a",)), watch.coming("c"))
        self.alike(((), ("a",), ("c",), ("c", "a")), Watch(Book("devices c b a")).coming("b"))


class Promise67(Case):
    def check(self, devices, facts, chance, many):
        watch = Watch(book_of(devices, facts))
        for _ in range(many):
            left = [name for name in devices if name not in watch.on]
            if not left:
                watch.off()
                continue
            device = chance.choice(left)
            lot = in_sequence(devices, watch.on + (device,))
            told = watch.coming(device)
            wanted = [in_sequence(devices, set(rest) - set(lot)) for rest in ends(watch.book, lot)]
            self.alike(tuple(sorted(wanted)), told)
            came = [one for one in all_lots(devices) if not set(one) & set(lot)]
            for one in chance.sample(came, min(8, len(came))):
                self.check_put(watch, device, lot, one, one in told)
            try:
                watch.put(device, chance.choice(told))
            except Full:
                watch.off()

    def check_put(self, watch, device, lot, came, is_let):
        other = watch.copy()
        try:
            other.put(device, came)
        except Full:
            return
        except Contrary:
            self.is_false(is_let)
            self.assertEqual(state(watch), state(other))
            return
        self.is_true(is_let)
        rest = in_sequence(watch.book.devices, lot + came)
        self.alike(rest, other.on)
        self.alike((rest, rest), comes(other.book, lot))
        self.alike((rest,), ends(other.book, rest))
        self.assertEqual("always", other.judged((("stays", rest),)))

    def test_small_books(self):
        chance = Random(51)
        for devices, facts, _ in small_fitting()[::4]:
            self.check(devices, facts, chance, 5)

    def test_six_devices(self):
        chance = Random(52)
        for _, facts in loose_books()[::4] + great_books()[::8]:
            self.check(SIX, facts, chance, 4)


class Promise68(Case):
    def test_led_as_the_rules_have_it(self):
        chance = Random(53)
        cases = [(rules, facts) for rules, facts in loose_books()[::2]]
        for devices in SMALL:
            for rules, _ in every_ends(devices)[::5]:
                cases.append((rules, tuple(fact for fact in random_facts(devices, chance, 8) if so_of(rules, fact))))
        for rules, facts in cases:
            devices = rules.devices
            for _ in range(2):
                watch = Watch(book_of(devices, facts))
                first = chance.sample(devices, chance.randrange(1, len(devices) + 1))
                self.lead(watch, rules, first)
                self.alike(end(devices, rules.bundles, in_sequence(devices, first)), watch.on)
                watch.off()
                self.alike((), watch.on)

    def lead(self, watch, rules, names):
        devices = watch.book.devices
        for name in names:
            if name in watch.on:
                self.refused(IsOn, name, watch.put, name, ())
                self.refused(IsOn, name, watch.coming, name)
                continue
            lot = in_sequence(devices, watch.on + (name,))
            came = in_sequence(devices, set(end(devices, rules.bundles, lot)) - set(lot))
            # Where there is no room, facts are dropped until there is.
            while True:
                try:
                    watch.put(name, came)
                    break
                except Full as full:
                    kind = "stays" if len([one for one in watch.book.facts if one[0] == "stays"]) == full.value else "wakes"
                    watch.drop(next(at for at, fact in enumerate(watch.book.facts) if fact[0] == kind))

    def test_whatever_is_switched_on_first(self):
        rules = Rules(SIX, ((("a", "b"), ("c",)), (("c",), ("d",)), (("e",), ("a",))))
        for names in (("a", "b", "e"), ("b", "e", "a"), ("e", "b", "a"), ("e", "a", "b"), ("b", "a", "e")):
            watch = Watch(Book("devices a b c d e f"))
            self.lead(watch, rules, names)
            self.alike(("a", "b", "c", "d", "e"), watch.on)


class Promise69(Case):
    def test_the_word_of_judged(self):
        chance = Random(54)
        words = []
        for devices, facts, found in small_fitting()[::2]:
            watch = Watch(book_of(devices, facts))
            before = state(watch)
            for _ in range(6):
                claims = tuple(chance.sample(all_facts(devices), chance.choice((1, 2))))
                words.append(watch.judged(claims))
                self.alike(word_of(found, claims), words[-1])
                self.alike(words[-1], watch.judged(claims=claims))
            self.assertEqual(before, state(watch))
        self.assertEqual({"always", "never", "open"}, set(words))

    def test_of_the_book_as_it_is_now(self):
        for at, (devices, facts) in enumerate(some_starts()[::2]):
            chance = Random(400 + at)
            watch, day = both(devices, facts)
            for _ in range(8):
                word, arguments = some_deed(day, chance)
                if getattr(day, word)(*arguments) is None:
                    getattr(watch, word)(*arguments)
                claims = (chance.choice(all_facts(devices)),)
                self.alike(judged(book_of(devices, day.facts), claims)[0], watch.judged(claims))

    def test_wrong_claims(self):
        watch = Watch(BOOK)
        for value in odd_values() + [(), PUMPS, [PUMPS], (PUMPS, PUMPS), (PUMPS, LAMPS, ("stays", ())), (list(PUMPS),), "stays fan", BOOK,
            BOOK.facts]:
            self.refused(BadClaims, value, watch.judged, value)
        for value in wrong_facts():
            for claims in ((value,), (value, PUMPS), (PUMPS, value)):
                self.refused(BadClaims, claims, watch.judged, claims)


class Promise70(Lead):
    def test_what_is_put_tells_of_no_more_than_was_on(self):
        watch = Watch(Book("devices a b c d"))
        watch.put("b", ("d",))
        self.alike((("wakes", ("b",), "d"), ("stays", ("b", "d"))), watch.book.facts)
        watch.put("a", ())
        self.alike(("stays", ("a", "b", "d")), watch.book.facts[2])
        self.alike(3, len(watch.book))
        self.alike(["open", "open"], [watch.judged((("wakes", ("a",), name),)) for name in "bd"])
        self.alike(["never", "never"], [watch.judged((("wakes", lot, "c"),)) for lot in (("a",), ("a", "b"))])
        watch.off()
        watch.put("c", ("a", "b", "d"))
        told = (("wakes", ("c",), "a"), ("wakes", ("c",), "b"), ("wakes", ("c",), "d"), ("stays", ("a", "b", "c", "d")))
        self.alike(told, watch.book.facts[3:])

    def test_facts_dropped_make_room_again(self):
        stays = [("stays", lot) for lot in (("a",), ("b",), ("c",), ("d",), ("e",), ("f",), ("a", "b"), ("a", "c"))]
        watch, day = both(SIX, stays)
        self.alike(Full, self.do(watch, day, "tell", (("stays", ()),)))
        self.alike(Full, self.do(watch, day, "put", ("a", ("d",))))
        self.alike(None, self.do(watch, day, "put", ("a", ())))
        self.alike(Full, self.do(watch, day, "put", ("d", ())))
        self.alike(None, self.do(watch, day, "drop", (5,)))
        self.alike(None, self.do(watch, day, "put", ("d", ())))
        self.alike(("stays", ("a", "d")), watch.book.facts[7])
        self.alike(Full, self.do(watch, day, "put", ("e", ())))

    def test_something_that_comes_on_from_nothing(self):
        watch = Watch(Book("devices a b c\nwakes > b\nstays b"))
        self.alike((("b",), ("b", "c")), watch.coming("a"))
        self.alike(((),), watch.coming("b"))
        watch.put("b", ())
        self.alike((), tuple(came for came in watch.coming("a") if "b" in came))
        watch.off()
        with self.assertRaises(Contrary) as held:
            watch.put("a", ())
        facts = watch.book.facts + (("stays", ("a",)),)
        self.is_true(is_tree(("a", "b", "c"), facts, held.exception.value))
        watch.put("a", ("b",))
        self.alike(("a", "b"), watch.on)

    def test_devices_that_wake_one_another_in_a_row(self):
        book = book_of(SIX, [("wakes", (one,), other) for one, other in zip(SIX, SIX[1:])])
        for at, name in enumerate(SIX):
            watch = Watch(book)
            self.assertTrue(all(has_within(came, SIX[at + 1 :]) for came in watch.coming(name)))
            self.assertIn(SIX[at + 1 :], watch.coming(name))
            if 1 <= at < 5:
                with self.assertRaises(Contrary):
                    watch.put(name, SIX[at + 2 :])
            if at:
                watch.put(name, SIX[at + 1 :])
                self.alike(SIX[at:], watch.on)
                for other in SIX[at:]:
                    self.refused(IsOn, other, watch.put, other, ())
        watch = Watch(book)
        watch.put("b", ("c", "d", "e", "f"))
        self.alike(((),), watch.coming("a"))

    def test_dropping_never_is_contrary(self):
        for _, facts in great_books()[::9]:
            watch = Watch(book_of(SIX, facts))
            for _ in range(27):
                watch.drop(0)
            self.alike((0, 27), (len(watch.book), watch.done))


class Promise71(Lead):
    def test_long_days(self):
        for seed in range(4):
            chance = Random(500 + seed)
            devices = (SIX, ("pump", "fan", "lamp"))[seed % 2]
            rules = Rules(devices, some_bundles(devices, 4, seed))
            watch, day = both(devices, ())
            moments = [seen(watch)]
            while watch.done < 90:
                word, arguments = some_deed(day, chance)
                if word in ("undo", "redo") or word == "tell" and not so_of(rules, arguments[0]):
                    continue
                if getattr(day, word)(*arguments) is None:
                    getattr(watch, word)(*arguments)
                    moments.append(seen(watch))
            self.alike_now(watch, day)
            again = read_journal(journal(watch))
            self.is_true(again == watch)
            self.alike((watch.on, watch.done, watch.book.text), (again.on, again.done, again.book.text))
            for moment in moments[-2::-1]:
                watch.undo()
                self.assertEqual(moment, seen(watch))
            self.refused(NothingToUndo, None, watch.undo)
            for moment in moments[1:]:
                watch.redo()
                self.assertEqual(moment, seen(watch))
            self.refused(NothingToRedo, None, watch.redo)
            self.is_true(again == watch)

    def test_hundreds_of_deeds(self):
        watch = Watch(BOOK)
        for _ in range(150):
            watch.put("lamp", ())
            watch.off()
        self.alike((300, 4), (watch.done, len(watch.book)))
        again = read_journal(journal(watch))
        self.is_true(again == watch)
        for _ in range(300):
            watch.undo()
        self.alike((0, BOOK.text), (watch.done, watch.book.text))


class Contraries(Case):
    def test_each_contrary_tells_a_right_tree(self):
        many = 0
        for at, (_, facts) in enumerate(great_books()[::5]):
            chance = Random(at)
            watch = Watch(book_of(SIX, facts[:-1]))
            for fact in random_contraries(facts, chance, 9):
                try:
                    watch.copy().tell(fact)
                except Contrary as error:
                    self.is_true(is_tree(SIX, watch.book.facts + (fact,), error.value))
                    self.alike("always", watch.judged((contrary(fact),)))
                    many += 1
                except Full:
                    continue
        self.assertGreater(many, 10)
        self.assertEqual(shape(BOOK), shape(Watch(BOOK).book))


if __name__ == "__main__":
    unittest.main()
