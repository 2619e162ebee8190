"""What several tests need: sample numbers, and a look at refusals."""

import unittest
from fractions import Fraction

from glowflock import errors

NAMES = ("NoNumber", "NoRule", "NoSwarm", "NoStand", "TooLong", "NoWeb", "NoText", "NoRow", "NoBack")
GREAT = 10 ** 60 - 1
NUMBERS = (
    (0, 1), (1, 1), (-1, 1), (1, 2), (-1, 2), (2, 3), (-5, 3), (7, 12), (11, 60), (9, 1), (-40, 7),
    (GREAT, 1), (1, GREAT), (-GREAT, GREAT - 1), (GREAT - 2, GREAT - 3),
)
NO_NUMBERS = (
    (2, 4), (-2, 4), (6, 3), (10, 10), (0, 2), (0, 0), (1, 0), (1, -1), (-1, -2), (0, -1),
    (2 * GREAT, GREAT), [1, 2], [0, 1], (), (1,), (1, 2, 3), (0, 1, 1),
    (True, 1), (1, True), (False, 1), (True, True), ("1", 2), (1, "2"), (None, 1), (1, None),
    ((1, 1), 1), (1, (1, 1)), ((0, 1), (1, 1)), ([1], 1), (1, [1]), (1.0, 2), (1, 2.0), (0.5, 1),
    None, True, False, 0, 1, 0.5, "", "12", "1/2", b"12", {}, {1: 2}, {0: 1, 1: 2}, {1, 2},
    range(1, 3), Fraction(1, 2), object(), len, int,
)


def as_number(fraction):
    return (fraction.numerator, fraction.denominator)


def as_fraction(number):
    return Fraction(number[0], number[1])


class GlowCase(unittest.TestCase):
    def refused(self, name, call, *things):
        with self.assertRaises(errors.GlowError) as caught:
            call(*things)
        self.assertIsInstance(caught.exception, ValueError)
        for other in NAMES:
            is_one = isinstance(caught.exception, getattr(errors, other))
            self.assertEqual(is_one, other == name, (other, things))

    def is_plain_number(self, told):
        self.assertIs(type(told), tuple)
        self.assertEqual([type(part) for part in told], [int, int])
        self.assertEqual(told, as_number(as_fraction(told)))
