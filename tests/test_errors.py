"""The errors: which derives from which, and what each one keeps."""

import unittest

from armlegs import errors
from tests.helpers import HOOK, ONE

PLAIN = ("InvalidPoly", "InvalidShape", "InvalidSum", "InvalidWord", "InvalidFilling", "InvalidPath",
         "InvalidOperation")
KEEPING = (
    ("ParseError", "spot", errors.ArmError), ("InvalidNumber", "given", IndexError),
    ("UnknownName", "asked", KeyError), ("NothingToUndo", "wanted", LookupError),
    ("TooMany", "limit", OverflowError), ("Refused", "reason", ArithmeticError),
)


class TestErrors(unittest.TestCase):
    def test_bases(self):
        self.assertEqual(errors.ArmError.__bases__, (ValueError,))
        for name in PLAIN:
            self.assertEqual(getattr(errors, name).__bases__, (errors.ArmError,), name)
        for name, _, base in KEEPING:
            self.assertEqual(getattr(errors, name).__bases__, (base,), name)

    def test_kept_values(self):
        values = (None, True, 0, 7, -1, 10 ** 219, "a", (), (1, ("rest",)), [1], {"a": 1}, ONE, HOOK)
        for name, attribute, _ in KEEPING:
            for value in values:
                made = getattr(errors, name)(value)
                self.assertIs(getattr(made, attribute), value)

    def test_messages(self):
        for name in PLAIN + ("ArmError",):
            for value in ("a message", None, 7, (1, 2), ONE):
                self.assertIsInstance(getattr(errors, name)(value), ValueError)

    def test_raised(self):
        for name, attribute, base in KEEPING:
            with self.assertRaises(base) as caught:
                raise getattr(errors, name)(5)
            self.assertEqual(getattr(caught.exception, attribute), 5)
            self.assertIsInstance(str(caught.exception), str)


if __name__ == "__main__":
    unittest.main()
