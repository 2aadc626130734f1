"""Promises 72 and 73: journals, told and read back."""

import unittest
from random import Random

from tests.cases import Case
from tests.day import both, some_deed
from tests.known import loose_books, small_barred, small_fitting, some_fit
from tests.lines import read
from tests.plain import SIX, odd_values
from tests.seen import all_facts, book_of, great_books, line, tight_books
from wakesothers.books import Book
from wakesothers.desk import Desk
from wakesothers.errors import BadJournal, NothingToRedo, WakeError
from wakesothers.journals import journal, read_journal
from wakesothers.watches import Watch

TEXT = "devices fan lamp pump\nwakes fan lamp > pump\nstays lamp\nstirs fan\nsleeps pump > lamp"
DEEDS = "put fan : pump\nstirs fan\noff\nput lamp\ndrop 1\nstays\nwakes lamp pump > fan\nsleeps > lamp"


def days():
    """Watches that were led, and the plain days that were led beside them."""
    found = []
    starts = [(devices, facts) for devices, facts, _ in small_fitting()[::11]]
    for at, (devices, facts) in enumerate(starts + [(SIX, facts) for _, facts in loose_books()[::9]]):
        chance = Random(600 + at)
        watch, day = both(devices, facts)
        for _ in range(at % 25):
            word, arguments = some_deed(day, chance)
            if getattr(day, word)(*arguments) is None:
                getattr(watch, word)(*arguments)
        found.append((watch, day))
    return found


def number_of(text):
    """The number with which the journal is refused, or None if it is read."""
    try:
        read_journal(text)
    except BadJournal as error:
        return error.value
    return None


class Promise72(Case):
    def test_days_by_chance(self):
        for watch, day in days():
            text = "\n".join(day.lines())
            self.alike(text, journal(watch))
            again = read_journal(text)
            self.is_true(again == watch)
            self.alike((watch.book.text, watch.on, watch.done), (again.book.text, again.on, again.done))
            self.alike(text, journal(again))
            self.refused(NothingToRedo, None, again.redo)
            for _ in range(watch.done):
                again.undo()
            self.alike((day.moments[0][0], ()), (again.book.facts, again.on))

    def test_the_lines_of_each_deed(self):
        watch = Watch(Book(TEXT))
        self.alike(TEXT + "\nseen", journal(watch))
        lines = []
        for call, told in (
            (lambda: watch.tell(("stays", ())), "stays"), (lambda: watch.tell(("stays", ("lamp",))), "stays lamp"),
            (lambda: watch.tell(("wakes", ("lamp", "pump"), "fan")), "wakes lamp pump > fan"), (lambda: watch.drop(5), "drop 5"),
            (lambda: watch.tell(("sleeps", (), "lamp")), "sleeps > lamp"), (lambda: watch.tell(("stirs", ("fan",))), "stirs fan"),
            (lambda: watch.put("fan", ("pump",)), "put fan : pump"), (lambda: watch.put("lamp", ()), "put lamp"), (watch.off, "off"),
            (watch.off, "off"), (lambda: watch.put("fan", ("pump",)), "put fan : pump"), (lambda: watch.drop(0), "drop 0"),
        ):
            call()
            lines.append(told)
            self.alike("\n".join([TEXT, "seen", *lines]), journal(watch))
        watch = Watch(Book("devices a b c"))
        watch.put("b", ("a", "c"))
        self.alike("devices a b c\nseen\nput b : a c", journal(watch))

    def test_deeds_that_stand(self):
        watch = read_journal(TEXT + "\nseen\n" + DEEDS)
        self.alike(TEXT + "\nseen\n" + DEEDS, journal(watch))
        self.alike((8, ("lamp",)), (watch.done, watch.on))
        watch.undo()
        watch.undo()
        self.alike(TEXT + "\nseen\n" + "\n".join(DEEDS.split("\n")[:-2]), journal(watch))
        watch.redo()
        self.alike(TEXT + "\nseen\n" + "\n".join(DEEDS.split("\n")[:-1]), journal(watch))
        with watch.trial():
            watch.off()
            self.alike("off", journal(watch).split("\n")[-1])
        self.alike("wakes lamp pump > fan", journal(watch).split("\n")[-1])

    def test_the_book_is_that_with_which_it_began(self):
        watch = Watch(Book(TEXT))
        for _ in range(4):
            watch.drop(0)
        self.alike(TEXT + "\nseen\ndrop 0\ndrop 0\ndrop 0\ndrop 0", journal(watch))
        self.alike("devices fan lamp pump", read_journal(journal(watch)).book.text)

    def test_journals_of_no_deed_and_of_eighty(self):
        for devices, facts, _ in small_fitting()[::20]:
            watch = Watch(book_of(devices, facts))
            self.alike(book_of(devices, facts).text + "\nseen", journal(watch))
            self.alike(0, read_journal(journal(watch)).done)
        text = TEXT + "\nseen" + "\noff\nput fan : pump" * 40
        watch = read_journal(text)
        self.alike((80, ("fan", "pump"), 6), (watch.done, watch.on, len(watch.book)))
        self.alike(text, journal(watch))

    def test_the_greatest_books(self):
        for _, facts in great_books()[::9]:
            book = book_of(SIX, facts)
            watch = read_journal(book.text + "\nseen\n" + line(facts[3]) + "\ndrop 26\n" + line(facts[26]))
            self.alike((book.text, 3), (watch.book.text, watch.done))

    def test_devices_called_by_words_of_lines(self):
        text = "devices put seen off drop stays on\nwakes put > seen\nseen\nput put : seen\noff\nput off : drop stays\nstays seen\ndrop 0\nput on"
        watch = read_journal(text)
        self.alike(text, journal(watch))
        self.alike(("off", "drop", "stays", "on"), watch.on)
        self.alike(("devices seen\nseen", ()), (journal(read_journal("devices seen\nseen")), read_journal("devices seen\nseen").on))


class Promise73(Case):
    def check(self, text, number):
        for call in (read_journal, Desk):
            with self.assertRaises(BadJournal, msg=text) as held:
                call(text)
            self.assertIs(BadJournal, held.exception.__class__)
            self.alike(number, held.exception.value)
            with self.assertRaises(BadJournal):
                call(text=text)

    def test_what_is_no_string(self):
        for value in odd_values() + [Book(TEXT), Watch(Book(TEXT)), (TEXT + "\nseen",), [TEXT, "seen"]]:
            if not isinstance(value, str):
                self.check(value, 0)

    def test_without_a_line_seen(self):
        for text in ("", "\n", "seen ", " seen", "Seen", "seen\t", TEXT, TEXT + "\n", TEXT + "\nseen ", TEXT + "\noff\nput fan",
            "off\nnothing", "\n\n\n"):
            self.check(text, len(text.split("\n")) + 1)
        self.check("stirs\nstirs\nseenseen", 4)

    def test_what_bad_book_tells(self):
        self.check("seen", 1)
        self.check("seen\n" + TEXT + "\nseen", 1)
        self.check("seen\nseen", 1)
        self.check("\nseen", 1)
        self.check("device a\nseen", 1)
        self.check("devices a a\nseen\nnothing", 1)
        self.check("devices a b c d e f g\nseen", 1)
        self.check("devices a\nstays b\nseen", 2)
        self.check("devices a\nstays\nstays\nseen\noff", 3)
        self.check("devices a\nstays\n\nseen", 3)
        self.check("devices a b\nstays\nput a\nseen", 3)
        self.check("devices a b\nstays\nwakes b > b\nstays\nseen", 3)
        self.check("devices a b c d e f\n" + "\n".join("stirs " + name for name in "abcd") + "\nseen", 5)

    def test_books_that_no_rules_fit(self):
        self.check("devices a\nstirs a\nseen", 3)
        self.check("devices a\nstirs a\nseen\nseen\nnothing", 3)
        self.check(TEXT + "\nstays fan\nseen\ndrop 4", 7)
        for book in tight_books() + [book_of(devices, facts) for devices, facts in small_barred()[::7]]:
            self.check(book.text + "\nseen", len(book) + 2)
            self.check(book.text + "\nseen\nbad", len(book) + 2)

    def test_lines_without_a_form(self):
        for bad in (
            "", " ", "seen", "off ", " off", "OFF", "off off", "undo", "redo", "on", "coming fan", "surely fan", "is stays", "devices fan lamp pump",
            "tell stays", "drop", "drop ", "drop  1", "drop 01", "drop 00", "drop -1", "drop +1", "drop 1 ", "drop one", "drop 1 2", "drop 1.0",
            "put", "put ", "put  fan", "put fan ", "put fan lamp", "put fan :", "put fan : ", "put fan :  pump", "put fan : pump ", "put : pump",
            "put fan: pump", "put fan :pump", "put > : pump", "put : : pump", "put fan : >", "put fan : :", "put fan : pump : lamp", "put fan > pump",
            "stays ", "stays  fan", " stays", "stays fan ", "stays >", "stays :", "stays fan > pump", "stirs fan : pump", "Stays", "stay fan",
            "wakes", "wakes fan", "wakes >", "wakes > ", "wakes fan >", "wakes fan > ", "wakes fan  > pump", "wakes fan >  pump", "wakes > > fan",
            "wakes > :", "wakes : > fan", "wakes fan > pump lamp", "wakes fan > pump > lamp", "sleeps fan", "sleeps", "sleeps pump",
            "drop 0x1", "nothing",
        ):
            self.check(TEXT + "\nseen\n" + bad, 7)
            self.check(TEXT + "\nseen\nstirs fan\nput fan : pump\n" + bad + "\noff\nnothing", 9)

    def test_lines_that_are_refused(self):
        for bad in (
            "drop 4", "drop 999999999", "put fox", "put fan : fan", "put fan : fox", "put fan : pump lamp", "put fan : pump pump",
            "put fan", "put fan : lamp",
            "stays fox", "stays lamp fan", "stays fan fan", "stays fan", "stirs fan lamp pump", "wakes fox > fan", "wakes fan > fox",
            "wakes fan > fan",
            "wakes pump > lamp", "wakes lamp fan > pump", "sleeps fan > pump", "put Fan", "put f4n", "stays fan> pump", "stays 1", "put seen",
        ):
            self.check(TEXT + "\nseen\n" + bad, 7)
            self.check(TEXT + "\nseen\noff\nstirs fan\n" + bad + "\nnothing\n", 9)
        self.check(TEXT + "\nseen\nput fan : pump\nput pump", 8)
        self.check(TEXT + "\nseen\nput fan : pump\nput lamp : fan", 8)
        self.check("devices a b c d\nstirs a\nstirs b\nstirs c\nseen\nstirs d", 6)

    def test_lines_that_are_let(self):
        for good in ("drop 0", "drop 3", "put fan : pump", "put fan : lamp pump", "put lamp", "off", "stays", "stays lamp",
            "wakes fan > lamp", "sleeps > fan", "stirs pump"):
            text = TEXT + "\nseen\n" + good
            self.alike(text, journal(read_journal(text)))
            self.alike(1, Desk(text).watch.done)
        text = "devices fan lamp\nseen\nwakes > fan\nput lamp : fan"
        self.alike(text, journal(read_journal(text)))

    def test_journals_with_a_line_changed(self):
        refused = 0
        for at, (watch, day) in enumerate(days()):
            chance = Random(700 + at)
            lines = journal(watch).split("\n")
            for _ in range(6):
                text = "\n".join(changed(lines, day.devices, chance))
                wanted = read(text, some_fit)
                if isinstance(wanted, int):
                    self.check(text, wanted)
                    refused += 1
                else:
                    self.alike("\n".join(wanted.lines()), journal(read_journal(text)))
        self.assertGreater(refused, 100)

    def test_nothing_else_is_raised(self):
        for text in ("seen\noff", TEXT + "\nseen\ndrop 7", TEXT + "\nseen\nput fan : lamp\nput pump", "devices a\nstirs\nseen\nstays\noff"):
            with self.assertRaises(WakeError) as held:
                read_journal(text)
            self.assertIs(BadJournal, held.exception.__class__)
            self.assertEqual(number_of(text), held.exception.value)


def changed(lines, devices, chance):
    """The lines with one of them left out, doubled, exchanged, or told otherwise."""
    lines = list(lines)
    at = chance.randrange(len(lines))
    words = lines[at].split(" ")
    word = chance.choice(devices + ("", ">", ":", "seen", "fox", "0", "9"))
    pick = chance.randrange(8)
    if pick == 0:
        del lines[at]
    elif pick == 1:
        lines.insert(at, lines[chance.randrange(len(lines))])
    elif pick == 2:
        lines[at] = line(chance.choice(all_facts(devices)))
    elif pick == 3:
        lines.insert(at, chance.choice(("off", "seen", "", "put " + devices[0], "drop 0", "put " + " : ".join(devices[:2]))))
    else:
        place = chance.randrange(len(words))
        lines[at] = " ".join(words[:place] + [word] + words[place + pick % 2 :])
    return lines


if __name__ == "__main__":
    unittest.main()
