"""The examples of the document, sections 4 and 5."""

import unittest

from tests.cases import Case
from wakesothers.rules import Rules
from wakesothers.ways import differ, shows_differ, way


class Examples(Case):
    def setUp(self):
        self.rules = Rules(("fan", "lamp", "pump"), ((("fan", "lamp"), ("pump",)), (("fan",), ("lamp",))))
        self.other = Rules(("fan", "lamp", "pump"), ((("fan",), ("pump",)),))

    def test_section_4(self):
        rules, other = self.rules, self.other
        self.alike(("fan", "lamp", "pump"), rules.rest(("fan",)))
        self.is_true(rules.stays(("lamp",)))
        self.alike(((), ("fan", "lamp", "pump"), ("lamp",)), rules.rests[:3])
        self.alike(((("fan",), ("pump",)),), (rules & other).bundles)
        self.is_true(other.is_within(rules))
        self.is_true((rules | other) == rules)

    def test_section_5(self):
        rules, other = self.rules, self.other
        self.alike(("wakes", (1, 0)), way(rules, ("fan",), "pump"))
        self.alike(("sleeps", ("pump",)), way(rules, ("pump",), "lamp"))
        self.alike(("alike",), differ(rules, rules | other))
        self.is_true(shows_differ(rules, other, ("apart", ("fan", "pump"), "lamp")))


if __name__ == "__main__":
    unittest.main()
