"""Point 5, and point 2 as far as it speaks of rules."""

import unittest
from fractions import Fraction

from glowflock.numbers import less
from glowflock.rules import bend, pushed, rule_of
from helper import GREAT, NO_NUMBERS, GlowCase, as_fraction, as_number


def fractions_between(low, high, bottoms):
    told = {Fraction(top, bottom) for bottom in bottoms for top in range(low * bottom, high * bottom + 1)}
    return [as_number(one) for one in sorted(told)]


def is_wanted(a, b):
    one = as_fraction(a)
    other = as_fraction(b)
    bottoms = a[1] <= 8 and b[1] <= 12
    return bottoms and 0 < one <= 4 and 0 <= other <= 1 and one + other >= 1


FACTORS = fractions_between(-1, 5, range(1, 11))
SHIFTS = fractions_between(-1, 2, range(1, 15))
RULES = [(a, b) for a in FACTORS for b in SHIFTS if is_wanted(a, b)]


class Made(GlowCase):
    def makes(self, a, b):
        told = rule_of(a, b)
        self.assertIs(type(told), tuple)
        self.assertEqual(told, (a, b))

    def none(self, a, b):
        self.refused("NoRule", rule_of, a, b)

    def test_a_at_the_bounds(self):
        self.makes((1, 8), (1, 1))
        self.makes((4, 1), (0, 1))
        self.makes((4, 1), (1, 1))
        self.makes((31, 8), (0, 1))

    def test_a_beyond_the_bounds(self):
        self.none((0, 1), (1, 1))
        self.none((-1, 8), (1, 1))
        self.none((-2, 1), (1, 1))
        self.none((33, 8), (0, 1))
        self.none((5, 1), (0, 1))
        self.none((GREAT, 1), (1, 2))

    def test_the_bottom_of_a(self):
        self.makes((9, 8), (0, 1))
        self.makes((7, 8), (1, 2))
        self.none((10, 9), (0, 1))
        self.none((8, 9), (1, 2))
        self.none((1, 9), (1, 1))
        self.none((GREAT, GREAT - 1), (1, 2))

    def test_b_at_the_bounds(self):
        self.makes((1, 1), (0, 1))
        self.makes((1, 1), (1, 12))
        self.makes((1, 2), (1, 1))
        self.makes((1, 1), (11, 12))

    def test_b_beyond_the_bounds(self):
        self.none((2, 1), (-1, 12))
        self.none((2, 1), (-1, 1))
        self.none((1, 1), (13, 12))
        self.none((1, 1), (2, 1))
        self.none((1, 2), (GREAT, 1))

    def test_the_bottom_of_b(self):
        self.makes((1, 1), (5, 12))
        self.none((1, 1), (5, 13))
        self.none((1, 1), (1, 13))
        self.none((1, 1), (12, 13))
        self.none((1, 1), (1, GREAT))

    def test_both_together(self):
        for a, b in (((1, 8), (7, 8)), ((5, 8), (3, 8)), ((1, 1), (0, 1)), ((1, 2), (1, 2))):
            self.makes(a, b)
        for a, b in (((3, 8), (7, 11)), ((2, 7), (8, 11)), ((1, 8), (8, 9))):
            self.makes(a, b)
        for a, b in (((5, 8), (4, 11)), ((5, 7), (3, 11)), ((1, 8), (6, 7)), ((7, 8), (0, 1))):
            self.none(a, b)

    def test_all_of_a_grid_reaching_beyond_the_bounds(self):
        for a in FACTORS:
            for b in SHIFTS:
                if is_wanted(a, b):
                    self.makes(a, b)
                else:
                    self.none(a, b)

    def test_things_that_are_no_numbers(self):
        for thing in NO_NUMBERS:
            self.none(thing, (1, 2))
            self.none((1, 1), thing)
            self.none(thing, thing)

    def test_what_is_refused_stays_as_it_is(self):
        a = [1, 1]
        b = [0, 1]
        self.none(a, b)
        self.assertEqual((a, b), ([1, 1], [0, 1]))

    def test_refused_with_any_figures(self):
        self.none((10 ** 5000, 1), (0, 1))
        self.none((1, 1), (1, 10 ** 5000))


class Bend(GlowCase):
    def test_rising(self):
        for a in ((9, 8), (8, 7), (3, 2), (2, 1), (4, 1)):
            self.assertEqual(bend(rule_of(a, (1, 12))), "rising")

    def test_even(self):
        for b in ((0, 1), (1, 12), (1, 2), (1, 1)):
            self.assertEqual(bend(rule_of((1, 1), b)), "even")

    def test_falling(self):
        for a in ((7, 8), (6, 7), (1, 2), (1, 8)):
            self.assertEqual(bend(rule_of(a, (1, 1))), "falling")

    def test_all_rules(self):
        for a, b in RULES:
            wanted = "rising" if a[0] > a[1] else "even" if a[0] == a[1] else "falling"
            self.assertEqual(bend((a, b)), wanted)


class Once(GlowCase):
    def test_a_times_x_and_b_more(self):
        self.assertEqual(pushed(((3, 2), (1, 12)), (1, 2), 1), (5, 6))
        self.assertEqual(pushed(((1, 2), (1, 2)), (-3, 1), 1), (-1, 1))

    def test_nothing_becomes_less_and_the_order_stays(self):
        xs = ((0, 1), (1, 7), (1, 2), (59, 60), (1, 1))
        for rule in RULES:
            told = [pushed(rule, x, 1) for x in xs]
            for place, x in enumerate(xs):
                self.assertIs(less(told[place], x), False)
                self.assertIs(place == 0 or less(told[place - 1], told[place]), True)


if __name__ == "__main__":
    unittest.main()
