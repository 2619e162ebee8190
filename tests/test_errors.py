"""The interface's errors: GlowError, and nine classes under it, none under another one."""

import unittest

from glowflock import errors
from helper import NAMES


class Errors(unittest.TestCase):
    def test_glow_error_is_a_value_error(self):
        self.assertEqual(errors.GlowError.__bases__, (ValueError,))

    def test_each_class_stands_straight_under_glow_error(self):
        for name in NAMES:
            self.assertEqual(getattr(errors, name).__bases__, (errors.GlowError,), name)

    def test_none_is_another_one(self):
        for name in NAMES:
            for other in NAMES:
                under = issubclass(getattr(errors, name), getattr(errors, other))
                self.assertEqual(under, name == other, (name, other))

    def test_each_is_raised_and_taken_with_words(self):
        for name in NAMES:
            with self.assertRaises(errors.GlowError) as caught:
                raise getattr(errors, name)("some words")
            self.assertEqual(str(caught.exception), "some words")


if __name__ == "__main__":
    unittest.main()
