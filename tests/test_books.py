"""Promises 23 to 26: books, their texts, their bounds, and what is told and untold."""

import unittest
from random import Random

from tests.cases import Case
from tests.plain import SIX, all_lots, nested, odd_values
from tests.seen import KINDS, MOST, all_facts, book_of, line, random_facts, small_books, text_of
from tests.test_rules import wrong_lots
from wakesothers.books import Book
from wakesothers.errors import BadBook, BadFact, Full, NoFact, OtherDevices
from wakesothers.rules import Rules

THREE = ("fan", "lamp", "pump")
TEXT = "devices fan lamp pump\nwakes fan lamp > pump\nstays lamp\nstirs fan\nsleeps pump > lamp"
FACTS = (("wakes", ("fan", "lamp"), "pump"), ("stays", ("lamp",)), ("stirs", ("fan",)), ("sleeps", ("pump",), "lamp"))


def of_kind(kind, devices=SIX):
    return [fact for fact in all_facts(devices) if fact[0] == kind]


def wrong_facts():
    """Values that are no facts of fan, lamp, pump."""
    found = odd_values() + [
        (), ("stays",), ("stirs",), ("wakes",), ("sleeps", ()), ("wakes", ("fan",)), ("stays", ("fan",), "lamp"),
        ("stirs", (), "fan"), ("stays", (), ()), ("stays", (), None), ("wakes", ("fan",), "lamp", "pump"), "stays", "stays fan",
        ("wakes", ("fan",), "fan"), ("sleeps", ("fan", "lamp"), "lamp"), ("wakes", THREE, "pump"), ("sleeps", THREE, "fan"),
        ("wakes", (), "fox"), ("sleeps", (), ""), ("wakes", (), None), ("wakes", (), True), ("wakes", (), 1), ("wakes", (), ()),
        ("wakes", (), ("fan",)), ("wakes", (), ["fan"]), ("wakes", (), Rules(THREE)), ("wakes", ("fan",), ">", "lamp"),
        ("STAYS", ()), ("stay", ()), ("stays ", ()), ("", ()), (None, ()), (True, ()), (0, ()), (1, (), "fan"), ((), ()),
        (("stays",), ()), (["stays"], ()), ({}, ()), (Rules(THREE), ()), ("rules", ()), ("never", (), "fan"), ("stays", "wakes"),
        (("fan",), "stays"), ("fan", "stays", ()), ("fan", ("lamp",), "wakes"), [("stays", ())], (("stays", ()),),
        ("wakes", "fan", ()), ("devices", ()), Book(TEXT), (Book(TEXT),), ("stays", Book(TEXT)), {"stays": ()},
    ]
    for fact in FACTS:
        found += [list(fact), (fact,), [fact], line(fact), {fact: True}, nested(fact)]
        found += [(fact[0], list(fact[1])) + fact[2:], fact + (None,), fact[::-1]]
    for lot in wrong_lots():
        if not (isinstance(lot, tuple) and lot in all_lots(THREE)):
            found += [("stays", lot), ("stirs", lot), ("wakes", lot, "fan"), ("sleeps", lot, "pump")]
    return found


class BookCase(Case):
    def refused_with(self, error, value, call, /, *told, **named):
        with self.assertRaises(error) as held:
            call(*told, **named)
        self.assertIs(error, held.exception.__class__)
        self.alike(value, held.exception.value)


class Promise23(Case):
    def test_text_devices_and_facts(self):
        book = Book(TEXT)
        self.alike((TEXT, THREE, FACTS), (book.text, book.devices, book.facts))
        self.alike((TEXT, THREE, FACTS), (Book(text=TEXT).text, Book(text=TEXT).devices, Book(text=TEXT).facts))

    def test_each_fact_of_each_device(self):
        for devices in (("a",), ("b", "a"), ("pump", "fan", "lamp"), SIX, ("stays", "wakes", "devices")):
            for fact in all_facts(devices):
                book = Book("devices " + " ".join(devices) + "\n" + line(fact))
                self.alike((devices, (fact,), 1), (book.devices, book.facts, len(book)))
                self.is_true(fact in book)
                self.is_false(("wakes", (), devices[-1]) + (0,) in book)

    def test_facts_stand_in_the_sequence_of_their_lines(self):
        for devices, facts in small_books():
            book = book_of(devices, facts)
            self.alike((text_of(devices, facts), devices, facts, len(facts)), (book.text, book.devices, book.facts, len(book)))
            for fact in all_facts(devices):
                self.assertIs(fact in facts, fact in book)

    def test_lots_without_devices(self):
        book = Book("devices a b\nstays\nstirs\nwakes > a\nsleeps > b")
        self.alike((("stays", ()), ("stirs", ()), ("wakes", (), "a"), ("sleeps", (), "b")), book.facts)

    def test_no_facts(self):
        book = Book("devices a")
        self.alike(((), 0, ("a",)), (book.facts, len(book), book.devices))

    def test_any_value_in_a_book(self):
        book = Book(TEXT)
        for fact in FACTS:
            self.is_true(fact in book)
            self.is_true((fact[0], tuple(list(fact[1]))) + fact[2:] in book)
        for value in wrong_facts():
            self.is_false(value in book, value)
            self.is_true(value not in book)
        for fact in all_facts(THREE):
            self.assertIs(fact in FACTS, fact in book)

    def test_equal_just_if_the_texts_are(self):
        book = Book(TEXT)
        self.is_true(book == Book(TEXT))
        self.is_false(book != Book(TEXT))
        lines = TEXT.split("\n")
        for other in (lines[:1] + lines[:0:-1], lines[:-1], lines + ["stays"], ["devices fan lamp pump lamps"] + lines[1:]):
            self.is_false(book == Book("\n".join(other)))
            self.is_true(Book("\n".join(other)) != book)
        self.is_false(Book("devices a b") == Book("devices b a"))

    def test_equal_to_nothing_else(self):
        book = Book("devices fan lamp")
        for value in odd_values() + [book.text, book.devices, book.facts, (), (book.text,), {book.text: 1}, (book,), [book]]:
            self.is_false(book == value)
            self.is_false(value == book)
            self.is_true(book != value)
        self.is_false(book == Rules(("fan", "lamp")))


class Promise24(Case):
    def wrong(self, number, *lines):
        text = "\n".join(lines)
        with self.assertRaises(BadBook, msg=text) as held:
            Book(text)
        self.alike(number, held.exception.value)
        with self.assertRaises(BadBook) as held:
            Book(text=text)
        self.alike(number, held.exception.value)

    def test_no_string(self):
        for value in odd_values() + [Book(TEXT), TEXT.split("\n"), (TEXT,), 2, b"devices a"]:
            if not isinstance(value, str):
                with self.assertRaises(BadBook) as held:
                    Book(value)
                self.alike(0, held.exception.value)

    def test_the_line_of_the_devices(self):
        for first in (
            "", "devices", "devices ", " devices a", "devices a ", "devices  a", "devices a  b", "device a", "Devices a",
            "devices A", "devices a1", "devices a,b", "devices a a", "devices a b a", "devices abcdefghi", "devices a > b",
            "devices a b c d e f g", "DEVICES a", "devicesa", "a", "a devices", "stays a", "stays", "devices\ta", " ", "devices -",
            "devices a b c d e aa a", "devices abcdefgh abcdefghi", "devices: a",
        ):
            self.wrong(1, first)
            self.wrong(1, first, "stays")
            self.wrong(1, first, "devices a")
        self.wrong(1, "\ndevices a")
        self.wrong(1, "", "", "")

    def test_lines_of_facts(self):
        for line_of_fact in (
            "", " ", "stay", "stay a", "stays  ", "stays ", " stays", "stays a ", "stays  a", " stays a", "stays b a", "stays a a",
            "stays c", "stays a c", "stays A", "stays > a", "stays a > b", "stays >", "stirs a >", "stirs a > b", "STAYS a", "stirs c",
            "stirs b a", "stirsa", "wakes", "wakes a", "wakes a b", "wakes >", "wakes a >", "wakes > c", "wakes a > c", "wakes a > a",
            "wakes a b > b", "wakes b a > a", "wakes a > b ", "wakes  > a", "wakes >  a", "wakes > a b", "wakes a > > b", "wakes > > b",
            "wakes a> b", "wakes a >b", "wakes a>b", "wakes a < b", "wakes > ", "wakes > a >", "wakes a > b > a", "wakes a > b a",
            "sleeps", "sleeps b", "sleeps b > b", "sleeps b > c", "sleeps c > a", "sleeps a b > a", "sleeps > a > b", "sleeps b >", ">",
            "> a", "a > b", "devices a b", "devices", "wake a > b", "wakes a > b.", "wakes, a > b", "seen", "-", "wakes a : b", "# stays",
            "wakes a > B", "wakes\ta > b", "stays ()", "wakes () > a", "STIRS", "Stays", "fan", "a", "wakes a a > b",
        ):
            self.wrong(2, "devices a b", line_of_fact)
            self.wrong(3, "devices a b", "stays a b", line_of_fact, "nonsense")
            self.wrong(4, "devices a b", "stays a b", "wakes > b", line_of_fact)

    def test_line_feeds_at_the_ends(self):
        self.wrong(1, "\n" + TEXT)
        self.wrong(6, TEXT + "\n")
        self.wrong(6, TEXT + "\n\n")
        self.wrong(2, "devices a\n")
        self.wrong(2, "devices a", "", "stays")
        self.wrong(1, " " + TEXT)
        self.wrong(5, TEXT + " ")

    def test_each_line_out_twice_or_exchanged(self):
        lines = TEXT.split("\n")
        self.wrong(1, *lines[1:])
        for at in range(1, len(lines)):
            self.wrong(at + 2, *lines[: at + 1], lines[at], *lines[at + 1 :])
            self.wrong(1, lines[at], *lines[1:at], lines[0], *lines[at + 1 :])
            self.wrong(len(lines) + 1, *lines, lines[at])
            self.wrong(at + 1, *lines[:at], lines[0], *lines[at + 1 :])
            self.alike(len(lines) - 2, len(Book("\n".join(lines[:at] + lines[at + 1 :]))))
        self.wrong(2, lines[0], *lines)

    def test_each_word_out_or_changed(self):
        lines = TEXT.split("\n")
        for at, told in enumerate(lines):
            words = told.split(" ")
            for place in range(len(words)):
                for other in (words[:place] + words[place + 1 :], words[:place] + ["fox"] + words[place + 1 :]):
                    self.agrees(lines[:at] + [" ".join(other)] + lines[at + 1 :])
                for blank in (words[:place] + [""] + words[place:], words[:place] + [words[place] + "\n"] + words[place + 1 :]):
                    self.agrees(lines[:at] + [" ".join(blank)] + lines[at + 1 :])

    def test_many_lines_of_few_words(self):
        chance = Random(3)
        words = ["stays", "stirs", "wakes", "sleeps", ">", "a", "b", "c", "a", "b", "> a", "> b", "devices", ""]
        for _ in range(3000):
            lines = [" ".join(chance.choice(words) for _ in range(chance.randrange(1, 5))) for _ in range(3)]
            self.agrees(["devices a b"] + lines)

    def agrees(self, lines):
        """The text is taken or refused as all lines of right facts tell."""
        lines = "\n".join(lines).split("\n")
        number = first_wrong(lines)
        if number:
            self.wrong(number, *lines)
        else:
            self.alike("\n".join(lines), Book("\n".join(lines)).text)


def first_wrong(lines):
    """The number of the first line that cannot stand, or 0: by the lines of all facts there are."""
    words = lines[0].split(" ")
    devices = tuple(words[1:])
    names = [name for name in devices if 1 <= len(name) <= 8 and name.isalpha() and name.islower()]
    if words[0] != "devices" or len(names) != len(devices) or not 1 <= len(set(devices)) == len(devices) <= 6:
        return 1
    table = {line(fact): fact for fact in all_facts(devices)}
    for at in range(1, len(lines)):
        if lines[at] not in table or lines[at] in lines[1:at]:
            return at + 1
        kind = table[lines[at]][0]
        if len([told for told in lines[1:at] if table[told][0] == kind]) == MOST[kind]:
            return at + 1
    return 0


class Promise25(BookCase):
    def test_one_to_six_devices(self):
        for many in range(1, 7):
            self.alike(SIX[:many], Book("devices " + " ".join(SIX[:many])).devices)
        self.alike(("abcdefgh", "z"), Book("devices abcdefgh z").devices)
        for wrong in ("devices " + " ".join(SIX) + " g", "devices", "devices abcdefghi", "devices a ", "devices a a"):
            self.assertRaises(BadBook, Book, wrong)

    def test_as_many_facts_of_each_kind_as_there_may_be(self):
        for kind in KINDS:
            facts = of_kind(kind)
            for start in (0, 5, len(facts) - MOST[kind] - 1):
                some = tuple(facts[start : start + MOST[kind]])
                self.alike(some, book_of(SIX, some).facts)
                with self.assertRaises(BadBook) as held:
                    book_of(SIX, some + (facts[start + MOST[kind]],))
                self.alike(MOST[kind] + 2, held.exception.value)
                between = of_kind(KINDS[KINDS.index(kind) - 1])[:1]
                with self.assertRaises(BadBook) as held:
                    book_of(SIX, [*some, *between, facts[start + MOST[kind]], *between])
                self.alike(MOST[kind] + 3, held.exception.value)

    def test_all_kinds_full(self):
        facts = tuple(fact for kind in KINDS for fact in of_kind(kind)[: MOST[kind]])
        book = book_of(SIX, facts)
        self.alike((27, facts), (len(book), book.facts))
        for kind in KINDS:
            fact = of_kind(kind)[-1]
            self.refused_with(Full, MOST[kind], book.told, fact)
            self.refused_with(Full, MOST[kind], book.told, fact=fact)
            for told in facts:
                self.is_true(book.told(told) == book)

    def test_nine_of_a_kind_and_four_of_stirs(self):
        for kind in KINDS:
            book = Book("devices a b c d e f")
            facts = of_kind(kind)
            for at in range(MOST[kind]):
                self.alike(at, len(book))
                book = book.told(facts[at])
            self.alike(tuple(facts[: MOST[kind]]), book.facts)
            self.refused_with(Full, MOST[kind], book.told, facts[MOST[kind]])
            self.refused_with(Full, MOST[kind], book.told, facts[-1])
            again = book.told(facts[0])
            self.is_true(again == book)
            self.assertIsInstance(again, Book)
            for other in KINDS:
                if other != kind:
                    self.alike(MOST[kind] + 1, len(book.told(of_kind(other)[-1])))
            less = book.untold(0).told(facts[-1])
            self.alike(tuple(facts[1 : MOST[kind]]) + (facts[-1],), less.facts)

    def test_one_device_has_few_facts(self):
        facts = all_facts(("a",))
        self.alike(6, len(facts))
        self.alike(tuple(facts), book_of(("a",), facts).facts)


class Promise26(BookCase):
    def test_told_puts_the_fact_behind_the_others(self):
        for devices, facts in small_books()[::5]:
            book = book_of(devices, facts)
            for fact in all_facts(devices):
                if fact in facts:
                    told = book.told(fact)
                    self.is_true(told == book)
                    self.alike(facts, told.facts)
                elif len([other for other in facts if other[0] == fact[0]]) < MOST[fact[0]]:
                    told = book.told(fact=fact)
                    self.assertIsInstance(told, Book)
                    self.alike((text_of(devices, facts + (fact,)), facts + (fact,)), (told.text, told.facts))
                    self.is_true(told == Book(told.text))
            self.alike((text_of(devices, facts), facts), (book.text, book.facts))

    def test_told_what_is_no_fact(self):
        book = Book(TEXT)
        full = book_of(THREE, [fact for kind in KINDS for fact in of_kind(kind, THREE)[: MOST[kind]]])
        for value in wrong_facts():
            for one in (book, full, Book("devices fan lamp pump")):
                self.refused(BadFact, value, one.told, value)
                self.refused(BadFact, value, one.told, fact=value)
        self.alike(TEXT, book.text)

    def test_untold(self):
        for devices, facts in small_books()[::3]:
            book = book_of(devices, facts)
            for number in range(len(facts)):
                less = facts[:number] + facts[number + 1 :]
                self.alike((text_of(devices, less), less), (book.untold(number).text, book.untold(number=number).facts))
            self.alike((text_of(devices, facts), facts), (book.text, book.facts))
            for number in (-1, len(facts), len(facts) + 1, -len(facts) - 1, 999999999, -999999999):
                self.refused(NoFact, number, book.untold, number)
                self.refused(NoFact, number, book.untold, number=number)

    def test_untold_what_is_no_number(self):
        for value in odd_values() + ["0", "1", (0,), [0], {0: 0}, True, False, Book(TEXT), FACTS[0], nested(0)]:
            if isinstance(value, bool) or not isinstance(value, int) or value < 0:
                self.refused(NoFact, value, Book(TEXT).untold, value)

    def test_both_books(self):
        for seed in range(150):
            chance = Random(seed)
            devices = (("a",), ("b", "a"), ("pump", "fan", "lamp"), SIX)[seed % 4]
            one, other = (random_facts(devices, chance, chance.randrange(16)) for _ in range(2))
            self.check_both(devices, one, other)

    def check_both(self, devices, one, other):
        wanted = list(one)
        full = None
        for fact in other:
            if fact not in wanted and full is None:
                if len([told for told in wanted if told[0] == fact[0]]) == MOST[fact[0]]:
                    full = MOST[fact[0]]
                else:
                    wanted.append(fact)
        book, more = book_of(devices, one), book_of(devices, other)
        if full is None:
            self.assertIsInstance(book | more, Book)
            self.alike((text_of(devices, wanted), tuple(wanted)), ((book | more).text, (book | more).facts))
        else:
            self.refused_with(Full, full, lambda: book | more)
        self.alike((one, other), (book.facts, more.facts))
        self.alike((text_of(devices, one), text_of(devices, other)), (book.text, more.text))

    def test_both_books_when_full(self):
        for kind in KINDS:
            facts = of_kind(kind)
            one = book_of(SIX, facts[: MOST[kind]])
            self.refused_with(Full, MOST[kind], lambda: one | book_of(SIX, facts[-1:]))
            self.refused_with(Full, MOST[kind], lambda: book_of(SIX, facts[-1:]) | one)
            self.is_true((one | one) == one)
            self.is_true((one | book_of(SIX, facts[: MOST[kind]][::-1])) == one)
            self.is_true((one | Book("devices a b c d e f")) == one)
            self.is_true((Book("devices a b c d e f") | one) == one)
        # Of two kinds that are full, the one that comes first in the other book.
        stirs, wakes = of_kind("stirs"), of_kind("wakes")
        one = book_of(SIX, stirs[:3] + wakes[:8])
        self.refused_with(Full, 3, lambda: one | book_of(SIX, [wakes[0], stirs[4], wakes[9]]))
        self.refused_with(Full, 8, lambda: one | book_of(SIX, [stirs[0], wakes[9], stirs[4]]))

    def test_books_of_other_devices(self):
        for devices, others in ((("a", "b"), ("b", "a")), (("a", "b"), ("a",)), (("a",), ("a", "b")), (SIX, SIX[::-1])):
            one, other = book_of(devices, ()), book_of(others, (("stays", ()),))
            self.refused(OtherDevices, other, lambda: one | other)
            self.refused(OtherDevices, one, lambda: other | one)
        full = book_of(SIX, of_kind("stirs")[:3])
        other = book_of(SIX[::-1], (("stirs", ("e",)),))
        self.refused(OtherDevices, other, lambda: full | other)


if __name__ == "__main__":
    unittest.main()
