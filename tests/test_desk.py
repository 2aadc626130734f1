"""Promises 74 to 76: a desk, its lines and its answers."""

import unittest
from random import Random

from tests.cases import Case
from tests.known import loose_books, small_fitting
from tests.lines import deed_by, fact_by
from tests.plain import SIX, all_lots, odd_values
from tests.seen import all_facts, book_of, line
from tests.day import Day, some_deed
from tests.test_watches import state
from wakesothers.books import Book
from wakesothers.desk import Desk
from wakesothers.errors import BadClaims, BadDevice, BadFact, BadLine, BadLot, Contrary, Full, IsOn, NoFact, NothingToRedo
from wakesothers.errors import NothingToUndo, WakeError
from wakesothers.journals import journal
from wakesothers.judging import judged
from wakesothers.starting import blockers, starters
from wakesothers.surely import comes
from wakesothers.watches import Watch

TEXT = "devices fan lamp pump\nwakes fan lamp > pump\nstays lamp\nstirs fan\nsleeps pump > lamp"
START = TEXT + "\nseen"


def lot_of(lot):
    return " ".join(lot) or "-"


def lots_of(lots):
    return ", ".join(lot_of(lot) for lot in lots) or "none"


def line_of(word, arguments):
    """The line of a deed."""
    if word == "tell":
        return line(arguments[0])
    if word == "put":
        return "put " + arguments[0] + (" : " + " ".join(arguments[1]) if arguments[1] else "")
    return " ".join([word] + [str(argument) for argument in arguments])


def wanted_answer(watch, told):
    """What the desk has to answer to a question, by the watch and the functions."""
    words = told.split(" ")
    names = tuple(words[1:])
    if words[0] == "on":
        return lot_of(watch.on)
    if words[0] == "coming":
        return lots_of(watch.coming(words[1]))
    if words[0] in ("surely", "perhaps"):
        return lot_of(comes(watch.book, names)[words[0] == "perhaps"])
    if words[0] in ("starters", "blockers"):
        return lots_of({"starters": starters, "blockers": blockers}[words[0]](watch.book, names))
    return judged(watch.book, (fact_by(told[3:]),))[0]


def some_question(devices, chance):
    word = chance.choice(("on", "coming", "surely", "perhaps", "starters", "blockers", "is"))
    if word == "coming":
        return "coming " + chance.choice(devices)
    if word == "is":
        return "is " + line(chance.choice(all_facts(devices)))
    return " ".join((word,) + (chance.choice(all_lots(devices)) if word != "on" else ()))


class Promise74(Case):
    def test_days_by_chance(self):
        starts = [(devices, facts) for devices, facts, _ in small_fitting()[::9]] + [(SIX, facts) for _, facts in loose_books()[::9]]
        raised = []
        for at, (devices, facts) in enumerate(starts):
            chance = Random(800 + at)
            desk, day = Desk(book_of(devices, facts).text + "\nseen"), Day(devices, facts)
            for _ in range(25):
                word, arguments = some_deed(day, chance)
                due = getattr(day, word)(*arguments)
                told = line_of(word, arguments)
                before = state(desk.watch)
                if due is None:
                    self.alike("ok", desk.say(told))
                else:
                    raised.append(self.raised(desk, told, *due))
                    self.assertEqual(before, state(desk.watch))
                self.alike("\n".join(day.lines()), journal(desk.watch))
                self.alike((day.on, day.facts), (desk.watch.on, desk.watch.book.facts))
                self.ask(desk, some_question(devices, chance))
        self.assertEqual({Full, Contrary, IsOn, NoFact, NothingToUndo, NothingToRedo}, set(raised) - {BadLot})

    def raised(self, desk, told, error, value):
        with self.assertRaises(WakeError, msg=told) as held:
            desk.say(told)
        self.assertIs(error, held.exception.__class__)
        if error is not Contrary:
            self.alike(value, held.exception.value)
        return error

    def ask(self, desk, told):
        before = state(desk.watch)
        try:
            wanted = wanted_answer(desk.watch, told)
        except IsOn as error:
            self.raised(desk, told, IsOn, error.value)
        else:
            self.alike(wanted, desk.say(told))
            self.alike(wanted, desk.say(line=told))
        self.assertEqual(before, state(desk.watch))

    def test_all_questions_of_some_books(self):
        for devices, facts, _ in small_fitting()[::25]:
            desk = Desk(text=book_of(devices, facts).text + "\nseen")
            for lot in all_lots(devices):
                for word in ("surely", "perhaps", "starters", "blockers"):
                    self.ask(desk, " ".join((word,) + lot))
            for fact in all_facts(devices):
                self.ask(desk, "is " + line(fact))
            for name in devices:
                self.ask(desk, "coming " + name)

    def test_the_watch_of_a_journal(self):
        desk = Desk(START + "\nput fan : pump\nstays")
        self.assertIs(Watch, desk.watch.__class__)
        self.alike((("fan", "pump"), 2), (desk.watch.on, desk.watch.done))
        watch = desk.watch
        desk.say("undo")
        self.assertIs(watch, desk.watch)
        self.alike(1, watch.done)
        watch.off()
        self.alike("-", desk.say("on"))
        with watch.trial():
            desk.say("put lamp")
            self.alike("lamp", desk.say("on"))
        self.alike("-", desk.say("on"))

    def test_the_example(self):
        desk = Desk(START + "\nput fan : pump")
        lines = ("on", "coming lamp", "surely fan", "starters pump", "is wakes fan > lamp", "undo", "perhaps fan", "blockers", "on")
        wanted = ["fan pump", "-", "fan pump", "fan, pump", "never", "ok", "fan lamp pump", "none", "-"]
        self.alike(wanted, [desk.say(told) for told in lines])


class Promise75(Case):
    def check(self, desk, error, told, value):
        before = state(desk.watch)
        with self.assertRaises(WakeError, msg=told) as held:
            desk.say(told)
        self.assertIs(error, held.exception.__class__)
        self.alike(value, held.exception.value)
        self.assertEqual(before, state(desk.watch))

    def test_what_has_no_form(self):
        desk = Desk(START + "\nput fan : pump\noff")
        desk.watch.undo()
        values = [
            "", " ", "  ", "\n", "off\n", "\noff", "off\noff", "on ", " on", "on fan", "on on", "ON", "undo ", "undo 1", "redo redo",
            "un do", "seen", "journal",
            "coming", "coming ", "coming fan lamp", "coming  fan", "coming fan ", "coming >", "coming :", "coming fan : pump", "surely ",
            "surely  fan",
            "surely fan ", "surely >", "surely fan : lamp", "surely fan > pump", "perhaps :", "perhaps ", "starters ", "starters  fan",
            "starters >", "blockers ", "blockers :", "is", "is ", "is  stays", "is stays ", "is stays >", "is wakes fan", "is wakes fan >",
            "is wakes", "is fan",
            "is is stays", "is off", "is drop 1", "is stays fan\n", "is\nstays", "is stays fan > pump", "drop", "drop ", "drop 01",
            "drop -1", "drop +1", "drop 1 ", "drop x", "drop 1 1", "put", "put ", "put fan :", "put fan : ", "put fan lamp",
            "put fan :  pump", "put : fan",
            "put > : pump", "put : : pump", "put  : pump", "put > ", "put fan : >", "put fan : pump > lamp", "wakes fan", "wakes >",
            "wakes > >", "wakes > > fan", "wakes : > fan", "wakes  > fan", "wakes fan > pump ", "sleeps fan pump", "stays  fan",
            "stays fan ", "stays :", "stirs >", "tell stays", "keep", "copy", "devices fan lamp pump", "surely\nfan", "starters fan\n",
            "hello", "off off",
        ]
        for value in values + [value for value in odd_values() if not isinstance(value, str)] + [Book(TEXT), desk, desk.watch, ("on",),
            ["on"], {"on": 1}]:
            before = state(desk.watch)
            self.refused(BadLine, value, desk.say, value)
            self.refused(BadLine, value, desk.say, line=value)
            self.assertEqual(before, state(desk.watch))
        for value in values:
            self.assertIsNone(deed_by(value))

    def test_words_as_they_stand(self):
        desk = Desk(START)
        for told, error, value in (
            ("stays fox", BadFact, ("stays", ("fox",))), ("stays lamp fan", BadFact, ("stays", ("lamp", "fan"))), ("stirs 1 2", BadFact,
            ("stirs", ("1", "2"))),
            ("wakes fan > fan", BadFact, ("wakes", ("fan",), "fan")), ("sleeps fox fan > FAN", BadFact, ("sleeps", ("fox", "fan"), "FAN")),
            ("wakes > fox", BadFact, ("wakes", (), "fox")), ("stays fan> pump", BadFact, ("stays", ("fan>", "pump"))), ("drop 4", NoFact, 4),
            ("drop 123456789", NoFact, 123456789), ("put fox", BadDevice, "fox"), ("put fox : fan", BadDevice, "fox"), ("put fan : fan",
            BadLot, ("fan",)),
            ("put fan : pump lamp", BadLot, ("pump", "lamp")), ("put fan : fox", BadLot, ("fox",)), ("put fan : lamp lamp", BadLot, ("lamp", "lamp")),
            ("put fan : 1", BadLot, ("1",)), ("coming fox", BadDevice, "fox"), ("coming FAN", BadDevice, "FAN"), ("surely fox", BadLot, ("fox",)),
            ("surely lamp fan", BadLot, ("lamp", "fan")), ("perhaps fan fan", BadLot, ("fan", "fan")), ("starters pump fan", BadLot, ("pump", "fan")),
            ("blockers nobody", BadLot, ("nobody",)), ("is stays fox", BadClaims, (("stays", ("fox",)),)), ("undo", NothingToUndo, None),
            ("is wakes lamp fan > pump", BadClaims, (("wakes", ("lamp", "fan"), "pump"),)), ("is sleeps fan > fan", BadClaims, (("sleeps",
            ("fan",), "fan"),)),
            ("redo", NothingToRedo, None), ("surely >fan", BadLot, (">fan",)), ("surely ::", BadLot, ("::",)), ("coming put", BadDevice, "put"),
        ):
            self.check(desk, error, told, value)

    def test_what_the_watch_raises(self):
        desk = Desk(START + "\nput fan : pump")
        for told, error, value in (("put fan", IsOn, "fan"), ("put pump : lamp", IsOn, "pump"), ("coming pump", IsOn, "pump"),
            ("put lamp : pump", BadLot, ("pump",))):
            self.check(desk, error, told, value)
        desk = Desk("devices a b c d\nstirs a\nstirs b\nstirs c\nseen")
        self.check(desk, Full, "stirs d", 3)
        self.assertEqual("ok", desk.say("stirs c"))
        desk = Desk(book_of(SIX, [("stays", lot) for lot in all_lots(SIX)[:8]]).text + "\nseen")
        self.check(desk, Full, "stays b c", 8)
        self.check(desk, Full, "put a : b c d e f", 8)
        for told in ("stirs b", "wakes b > a", "wakes > f"):
            before = state(desk.watch)
            with self.assertRaises(Contrary):
                desk.say(told)
            self.assertEqual(before, state(desk.watch))

    def test_what_is_refused_or_asked_changes_nothing(self):
        desk = Desk(START + "\nput fan : pump\noff")
        desk.say("undo")
        for told in ("on", "coming lamp", "surely", "perhaps fan", "starters fan", "blockers pump", "is stays lamp"):
            before = state(desk.watch)
            desk.say(told)
            self.assertEqual(before, state(desk.watch))
        for told in ("put fan", "drop 99", "stays fan", "coming fan", "nothing"):
            self.assertRaises(WakeError, desk.say, told)
        self.assertEqual("ok", desk.say("redo"))
        self.check(desk, NothingToRedo, "redo", None)


class Promise76(Case):
    def test_answers_by_hand(self):
        desk = Desk("devices a b c\nseen")
        for told, wanted in (
            ("on", "-"), ("surely", "-"), ("surely a", "a"), ("perhaps", "a b c"), ("perhaps a", "a b c"), ("starters", "-"), ("blockers", "none"),
            ("starters a b", "a b"), ("blockers a b", "a c, b c"), ("blockers a b c", "a b, a c, b c"), ("coming a", "-, b, b c, c"),
            ("is stays a b c", "always"),
            ("is stirs a b c", "never"), ("is wakes a > b", "open"), ("is stays", "open"), ("is wakes > b", "open"), ("put a : b", "ok"),
            ("on", "a b"),
            ("coming c", "-"), ("put c", "ok"), ("on", "a b c"), ("off", "ok"), ("on", "-"), ("undo", "ok"), ("on", "a b c"), ("redo",
            "ok"), ("on", "-"),
            ("is wakes a > b", "always"), ("is wakes a > c", "never"), ("starters b", "a, b"), ("blockers b", "c"), ("drop 0", "ok"),
            ("is wakes a > b", "open"),
            ("stirs b", "ok"),
        ):
            self.alike(wanted, desk.say(told))
        with self.assertRaises(Contrary):
            desk.say("wakes > c")
        self.alike("ok", desk.say("undo"))

    def test_wakes_of_nothing(self):
        desk = Desk("devices fan lamp\nseen")
        self.alike("ok", desk.say("wakes > fan"))
        self.alike(("wakes", (), "fan"), desk.watch.book.facts[0])
        self.alike(["fan", "-", "none"], [desk.say("surely"), desk.say("starters fan"), desk.say("blockers fan")])
        self.alike(["fan", "fan lamp"], [desk.say("coming lamp").split(", ")[0], desk.say("perhaps")])

    def test_put_without_what_came(self):
        desk = Desk(START)
        self.alike("ok", desk.say("put lamp"))
        self.alike("lamp", desk.say("on"))
        desk = Desk("devices fan lamp\nseen")
        self.alike("ok", desk.say("put fan"))
        self.alike("never", desk.say("is wakes fan > lamp"))

    def test_devices_called_by_words_of_lines(self):
        desk = Desk("devices seen put off\nwakes put > off\nseen")
        for told, wanted in (
            ("put put : off", "ok"), ("on", "put off"), ("off", "ok"), ("on", "-"), ("put off", "ok"), ("coming seen", "-, put"),
            ("surely put", "put off"),
            ("is wakes put > off", "always"), ("is stays off", "always"), ("starters off", "off, put"), ("stays seen", "ok"), ("put seen", "ok"),
            ("on", "seen off"), ("is stays seen", "always"), ("perhaps seen put", "seen put off"), ("blockers off", "seen"),
        ):
            self.alike(wanted, desk.say(told))
        desk = Desk("devices on is undo redo coming drop\nseen")
        for told, wanted in (
            ("put on", "ok"), ("on", "on"), ("put is : undo", "ok"), ("on", "on is undo"), ("is wakes on > is", "never"), ("undo", "ok"),
            ("on", "on"),
            ("redo", "ok"), ("on", "on is undo"), ("coming coming", "-, drop, redo, redo drop"), ("is stays undo", "open"), ("is stirs is", "open"),
            ("starters undo", "on is, undo"), ("drop 0", "ok"), ("surely drop", "drop"), ("off", "ok"), ("coming undo", "-"),
        ):
            if told == "coming undo":
                wanted = lots_of(desk.watch.coming("undo"))
            self.alike(wanted, desk.say(told))

    def test_answers_are_strings(self):
        desk = Desk(START)
        for told in ("on", "surely", "is stays lamp", "off", "undo", "redo", "coming fan", "blockers"):
            self.assertIs(str, desk.say(told).__class__)


if __name__ == "__main__":
    unittest.main()
