"""Point 6, and point 2 as far as it speaks of pushes."""

import unittest

from glowflock.numbers import is_number, less
from glowflock.rules import pushed, pushes, rule_of
from helper import GREAT, GlowCase, as_fraction, as_number

RISING = (((4, 1), (1, 1)), ((9, 8), (0, 1)), ((31, 8), (11, 12)), ((8, 7), (1, 12)))
EVEN = (((1, 1), (0, 1)), ((1, 1), (1, 12)), ((1, 1), (1, 1)))
FALLING = (((7, 8), (1, 8)), ((1, 8), (1, 1)), ((1, 2), (1, 2)), ((5, 7), (4, 11)))
RULES = [rule_of(a, b) for a, b in RISING + EVEN + FALLING]
XS = (
    (-GREAT, 1), (-7, 2), (-1, 1), (-1, 60), (0, 1), (1, 60), (1, 2), (59, 60), (1, 1), (61, 60),
    (9, 4), (GREAT, 1), (GREAT, GREAT - 1),
)


def pushed_one_by_one(rule, x, many):
    told = as_fraction(x)
    for done in range(many):
        told = as_fraction(rule[0]) * told + as_fraction(rule[1])
    return as_number(told)


class Pushes(GlowCase):
    def test_none_one_and_two(self):
        rule = ((3, 2), (1, 12))
        self.assertEqual(pushes(rule, 0), ((1, 1), (0, 1)))
        self.assertEqual(pushes(rule, 1), ((3, 2), (1, 12)))
        self.assertEqual(pushes(rule, 2), ((9, 4), (5, 24)))

    def test_an_even_rule(self):
        for many in range(65):
            self.assertEqual(pushes(((1, 1), (1, 1)), many), ((1, 1), (many, 1)))

    def test_all_counts_against_the_pushes_one_by_one(self):
        for rule in RULES:
            for many in range(65):
                told = pushes(rule, many)
                self.assertIs(type(told), tuple)
                self.assertEqual(len(told), 2)
                self.is_plain_number(told[0])
                self.is_plain_number(told[1])
                self.assertEqual(told[1], pushed_one_by_one(rule, (0, 1), many))
                both = as_fraction(told[0]) + as_fraction(told[1])
                self.assertEqual(as_number(both), pushed_one_by_one(rule, (1, 1), many))

    def test_asked_again_the_same(self):
        for rule in RULES:
            first = pushes(rule, 64)
            pushes(rule, 3)
            self.assertEqual(pushes(rule, 64), first)


class Pushed(GlowCase):
    def test_none_one_and_two(self):
        rule = ((1, 2), (1, 2))
        for x in XS:
            self.assertEqual(pushed(rule, x, 0), x)
        self.assertEqual(pushed(rule, (1, 3), 1), (2, 3))
        self.assertEqual(pushed(rule, (1, 3), 2), (5, 6))
        self.assertEqual(pushed(rule, (-1, 1), 2), (1, 2))

    def test_nothing_ends_at_1(self):
        rule = ((2, 1), (1, 1))
        self.assertEqual([pushed(rule, (1, 2), many) for many in range(4)], [(1, 2), (2, 1), (5, 1), (11, 1)])
        self.assertEqual(pushed(rule, (-2, 1), 3), (-9, 1))

    def test_all_counts_against_the_pushes_one_by_one(self):
        for rule in RULES:
            for x in XS:
                for many in (0, 1, 2, 3, 5, 8, 17, 33, 63, 64):
                    told = pushed(rule, x, many)
                    self.is_plain_number(told)
                    self.assertEqual(told, pushed_one_by_one(rule, x, many), (rule, x, many))

    def test_one_count_and_then_another(self):
        for rule in RULES:
            for x in XS:
                for one, other in ((0, 5), (5, 0), (1, 1), (2, 7), (31, 33), (63, 1), (64, 64)):
                    told = pushed(rule, pushed(rule, x, one), other)
                    self.assertIs(is_number(told), True)
                    self.assertEqual(told, pushed(rule, x, one + other))

    def test_the_greater_stays_the_greater(self):
        for rule in RULES:
            told = [pushed(rule, x, 64) for x in sorted(XS, key=as_fraction)]
            for one, other in zip(told, told[1:]):
                self.assertIs(less(one, other), True)


if __name__ == "__main__":
    unittest.main()
