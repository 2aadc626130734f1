"""What the test classes have in common."""

import unittest

from wakesothers.errors import WakeError


class Case(unittest.TestCase):
    def refused(self, error, value, call, /, *told, **named):
        """The call raises just this error, which keeps the very value; the value stays as it was."""
        before = repr(value)
        with self.assertRaises(WakeError, msg=f"{call} {told} {named}") as held:
            call(*told, **named)
        self.assertIs(error, held.exception.__class__)
        self.assertIs(value, held.exception.value)
        self.assertEqual(before, repr(value))

    def alike(self, wanted, given):
        """Equal, and of the same kinds through and through: True is not 1, a list is no tuple."""
        self.assertEqual(wanted, given)
        self.assertEqual(repr(wanted), repr(given))

    def is_true(self, value, msg=None):
        self.assertIs(True, value, msg)

    def is_false(self, value, msg=None):
        self.assertIs(False, value, msg)
