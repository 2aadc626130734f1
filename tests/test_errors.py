"""Promise 0: the errors."""

import unittest

from tests.cases import Case
from tests.plain import nested, odd_values
from wakesothers import errors
from wakesothers.rules import Rules

NAMES = (
    "BadDevices BadBundles BadLot OtherDevices BadDevice BadRests BadBook BadFact Full NoFact NoRules BadClaims"
    " BadPrices TooMany BadOffers BadClaim Contrary IsOn NothingToUndo NothingToRedo NoTrial BadJournal BadLine"
).split()
KINDS = [getattr(errors, name) for name in NAMES]


class Promise0(Case):
    def test_there_are_all_of_them(self):
        self.assertEqual(23, len(KINDS))
        self.assertEqual(NAMES, [kind.__name__ for kind in KINDS])

    def test_each_derives_directly_from_wake_error(self):
        self.assertEqual((ValueError,), errors.WakeError.__bases__)
        for kind in KINDS:
            self.assertEqual((errors.WakeError,), kind.__bases__)

    def test_each_is_a_wake_error_and_a_value_error_and_none_of_the_others(self):
        for kind in KINDS:
            made = kind("value")
            self.assertIsInstance(made, errors.WakeError)
            self.assertIsInstance(made, ValueError)
            self.assertEqual([kind], [other for other in KINDS if isinstance(made, other)])
        self.assertEqual([], [kind for kind in KINDS if isinstance(errors.WakeError("value"), kind)])

    def test_each_keeps_its_only_argument(self):
        rules = Rules(("fan",))
        values = odd_values() + [rules, ("fan", "lamp"), (1, 2), nested(rules), 4, "x" * 4000, [[1], {"a": None}]]
        for kind in [errors.WakeError] + KINDS:
            for value in values:
                self.assertIs(value, kind(value).value)

    def test_each_keeps_it_when_it_is_raised(self):
        for kind in [errors.WakeError] + KINDS:
            value = [kind.__name__]
            with self.assertRaises(ValueError) as held:
                raise kind(value)
            self.assertIs(kind, held.exception.__class__)
            self.assertIs(value, held.exception.value)


if __name__ == "__main__":
    unittest.main()
