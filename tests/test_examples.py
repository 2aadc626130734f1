"""The examples of the document, sections 4 to 15, and those of README.md."""

import unittest
from doctest import testfile
from pathlib import Path

from tests.cases import Case
from wakesothers.bases import base, needing, of_rests, own_rests
from wakesothers.books import Book
from wakesothers.comparing import alike, mend, needless, quarrels, within
from wakesothers.desk import Desk
from wakesothers.fitting import broken, fits, possible, shows_possible
from wakesothers.journals import journal
from wakesothers.judging import either, judged, shows_judged
from wakesothers.rules import Rules
from wakesothers.starting import blockers, chances, cheapest, starters
from wakesothers.surely import comes, ends, outer, sure
from wakesothers.trying import trials
from wakesothers.watches import Watch
from wakesothers.ways import differ, shows_differ, way


class Examples(Case):
    def setUp(self):
        self.rules = Rules(("fan", "lamp", "pump"), ((("fan", "lamp"), ("pump",)), (("fan",), ("lamp",))))
        self.other = Rules(("fan", "lamp", "pump"), ((("fan",), ("pump",)),))
        self.book = Book("devices fan lamp pump\nwakes fan lamp > pump\nstays lamp\nstirs fan\nsleeps pump > lamp")

    def test_section_4(self):
        rules, other = self.rules, self.other
        self.alike(("fan", "lamp", "pump"), rules.rest(("fan",)))
        self.is_true(rules.stays(("lamp",)))
        self.alike(((), ("fan", "lamp", "pump"), ("lamp",)), rules.rests[:3])
        self.alike(((("fan",), ("pump",)),), (rules & other).bundles)
        self.is_true(other.is_within(rules))
        self.is_true((rules | other) == rules)

    def test_section_5(self):
        rules, other = self.rules, self.other
        self.alike(("wakes", (1, 0)), way(rules, ("fan",), "pump"))
        self.alike(("sleeps", ("pump",)), way(rules, ("pump",), "lamp"))
        self.alike(("alike",), differ(rules, rules | other))
        self.is_true(shows_differ(rules, other, ("apart", ("fan", "pump"), "lamp")))

    def test_section_6(self):
        rules, other = self.rules, self.other
        self.alike((("fan",),), needing(rules))
        self.alike(((("fan",), ("lamp", "pump")),), base(rules).bundles)
        self.alike((("lamp",), ("lamp", "pump"), ("pump",)), own_rests(rules))
        self.is_true(of_rests(rules.devices, own_rests(rules)) == rules)
        self.alike((("fan", "pump"), ("lamp",), ("lamp", "pump")), own_rests(other))
        self.alike(((("a",), ("b",)), (("b",), ("a",))), of_rests(("a", "b"), ((),)).bundles)

    def test_section_7(self):
        book = self.book
        self.alike(("fan", "lamp", "pump"), book.devices)
        self.alike(("wakes", ("fan", "lamp"), "pump"), book.facts[0])
        self.alike(4, len(book))
        self.is_false(("stays", ()) in book)
        self.alike("wakes > fan", book.told(("wakes", (), "fan")).text.split("\n")[-1])

    def test_section_8(self):
        book, barred = self.book, self.book.told(("stays", ("fan",)))
        self.alike([(), ()], [broken(book, self.rules), broken(book, self.other)])
        self.alike([True, True], [fits(book, self.rules), fits(book, self.other)])
        self.alike(["rules", "never"], [possible(book)[0], possible(barred)[0]])
        self.alike(("never", ("fork", 0, ())), possible(Book("devices a\nstirs a")))
        tree = ("fork", 2, (("leaf", 4, ((2, "lamp"),)), ("leaf", 4, ((2, "pump"),))))
        self.is_true(shows_possible(barred, ("never", tree)))

    def test_section_9(self):
        book = self.book
        pumps, lamps = ("wakes", ("fan",), "pump"), ("wakes", ("fan",), "lamp")
        self.alike("always", judged(book, (pumps,))[0])
        self.alike("open", judged(book, (pumps, lamps))[0])
        self.alike("never", judged(book, (("stays", ("fan", "lamp")),))[0])
        self.alike("always", either(book, (lamps, ("stays", ("fan", "pump"))))[0])
        tree = ("fork", 2, (("leaf", 4, ((2, "lamp"), (0, "pump"))), ("leaf", 4, ((2, "pump"),))))
        self.is_true(shows_judged(book, (pumps,), ("always", (tree,))))

    def test_section_10(self):
        book = self.book
        self.alike((("fan", "pump"), ("fan", "lamp", "pump")), comes(book, ("fan",)))
        self.alike((("fan", "lamp", "pump"), ("fan", "pump")), ends(book, ("fan",)))
        self.alike(((("fan",), ("pump",)),), sure(book).bundles)
        self.alike(((), ("fan", "lamp", "pump"), ("lamp",)), outer(book).rests)
        self.is_true(fits(book, sure(book)))
        self.is_false(fits(Book("devices a b c\nstirs a"), sure(Book("devices a b c\nstirs a"))))

    def test_section_11(self):
        book = self.book
        self.alike((("fan",), ("pump",)), starters(book, ("pump",)))
        self.alike((("lamp",),), blockers(book, ("pump",)))
        self.alike((("fan",), ("lamp",)), chances(book, ("lamp",)))
        self.alike((2, (("fan",),)), cheapest(book, ("pump",), (2, 1, 3)))
        self.alike(((),), starters(book, ()))

    def test_section_12(self):
        book, barred = self.book, self.book.told(("stays", ("fan",)))
        self.alike(["within", "parts"], [within(book, book.untold(1))[0], within(book.untold(1), book)[0]])
        self.alike((0, 2, 4), needless(book.told(("wakes", ("fan",), "pump"))))
        self.alike(((2, 4),), quarrels(barred))
        self.alike(1, len(mend(barred)[0]))
        self.alike("alike", alike(book, book)[0])

    def test_section_13(self):
        book, lamps, pumps = self.book, ("wakes", ("fan",), "lamp"), ("wakes", ("fan",), "pump")
        tree = ("try", 0, ((("fan", "lamp", "pump"), ("known", "always")), (("fan", "pump"), ("known", "never"))))
        self.alike((2, tree), trials(book, ((("fan",), 2), (("pump",), 1)), lamps))
        self.alike((), trials(book, ((("pump",), 1),), lamps))
        self.alike((0, ("known", "always")), trials(book, ((("pump",), 1),), pumps))

    def test_sections_14_and_15(self):
        watch = Watch(self.book)
        lamps = ("wakes", ("fan",), "lamp")
        told = [watch.coming("fan"), watch.put("fan", ("pump",)), watch.on, watch.book.facts[4:], watch.judged((lamps,)), watch.coming("lamp")]
        facts = (("wakes", ("fan",), "pump"), ("stays", ("fan", "pump")))
        self.alike([(("lamp", "pump"), ("pump",)), None, ("fan", "pump"), facts, "never", ((),)], told)
        self.alike(["seen", "put fan : pump"], journal(watch).split("\n")[5:])
        desk = Desk(journal(watch))
        lines = ("on", "coming lamp", "surely fan", "starters pump", "is wakes fan > lamp", "undo", "perhaps fan", "blockers", "on")
        wanted = ["fan pump", "-", "fan pump", "fan, pump", "never", "ok", "fan lamp pump", "none", "-"]
        self.alike(wanted, [desk.say(line) for line in lines])

    def test_the_examples_of_the_readme(self):
        path = Path(__file__).resolve().parent.parent / "README.md"
        told = testfile(str(path), module_relative=False)
        self.assertGreater(told.attempted, 10)
        self.assertEqual(0, told.failed)


if __name__ == "__main__":
    unittest.main()
