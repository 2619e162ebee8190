"""Point 4, and point 2 as far as it speaks of numbers."""

import unittest

from glowflock.numbers import is_number, less, minus, number, over, plus, times
from helper import GREAT, NO_NUMBERS, NUMBERS, GlowCase, as_fraction, as_number

PAIRS = [(one, other) for one in NUMBERS for other in NUMBERS]


class Made(GlowCase):
    def test_of_both_signs(self):
        self.assertEqual(number(3, 4), (3, 4))
        self.assertEqual(number(-3, 4), (-3, 4))
        self.assertEqual(number(3, -4), (-3, 4))
        self.assertEqual(number(-3, -4), (3, 4))

    def test_of_nought_above(self):
        for bottom in (1, 2, -1, -7, GREAT, -GREAT):
            self.assertEqual(number(0, bottom), (0, 1))

    def test_of_a_common_divisor(self):
        self.assertEqual(number(6, 4), (3, 2))
        self.assertEqual(number(-6, 4), (-3, 2))
        self.assertEqual(number(4, -6), (-2, 3))
        self.assertEqual(number(12, 3), (4, 1))
        self.assertEqual(number(3, 12), (1, 4))
        self.assertEqual(number(-7, -7), (1, 1))
        self.assertEqual(number(7, -7), (-1, 1))

    def test_of_small_ones_all(self):
        for top in range(-30, 31):
            for bottom in range(-30, 31):
                if bottom != 0:
                    told = number(top, bottom)
                    self.is_plain_number(told)
                    self.assertEqual(told[0] * bottom, top * told[1])

    def test_of_great_ones(self):
        self.assertEqual(number(GREAT, GREAT), (1, 1))
        self.assertEqual(number(GREAT, -3), (-(GREAT // 3), 1))
        self.assertEqual(number(-GREAT, GREAT - 1), (-GREAT, GREAT - 1))
        self.assertEqual(number(6 * 10 ** 59, -4 * 10 ** 58), (-15, 1))
        self.assertEqual(number(2 ** 190, 6 ** 70), (2 ** 120, 3 ** 70))

    def test_nought_below_is_refused(self):
        for top in (0, 1, -1, 12, GREAT, -GREAT):
            self.refused("NoNumber", number, top, 0)


class Reckoned(GlowCase):
    def test_plus(self):
        self.assertEqual(plus((1, 6), (1, 3)), (1, 2))
        self.assertEqual(plus((1, 2), (-1, 2)), (0, 1))
        for one, other in PAIRS:
            top = one[0] * other[1] + other[0] * one[1]
            self.is_crosswise(plus(one, other), top, one[1] * other[1])

    def test_minus(self):
        self.assertEqual(minus((1, 2), (1, 3)), (1, 6))
        self.assertEqual(minus((1, 3), (1, 2)), (-1, 6))
        self.assertEqual(minus((5, 6), (5, 6)), (0, 1))
        for one, other in PAIRS:
            top = one[0] * other[1] - other[0] * one[1]
            self.is_crosswise(minus(one, other), top, one[1] * other[1])

    def test_times(self):
        self.assertEqual(times((2, 3), (-3, 4)), (-1, 2))
        self.assertEqual(times((0, 1), (-3, 4)), (0, 1))
        for one, other in PAIRS:
            self.is_crosswise(times(one, other), one[0] * other[0], one[1] * other[1])

    def test_over(self):
        self.assertEqual(over((1, 2), (3, 4)), (2, 3))
        self.assertEqual(over((1, 2), (-3, 4)), (-2, 3))
        self.assertEqual(over((-1, 2), (-3, 4)), (2, 3))
        self.assertEqual(over((0, 1), (-3, 4)), (0, 1))
        for one, other in PAIRS:
            if other != (0, 1):
                self.is_crosswise(over(one, other), one[0] * other[1], one[1] * other[0])

    def test_over_nought_is_refused(self):
        for one in NUMBERS:
            self.refused("NoNumber", over, one, (0, 1))

    def is_crosswise(self, told, top, bottom):
        self.is_plain_number(told)
        self.assertEqual(told[0] * bottom, top * told[1])


class Less(GlowCase):
    def test_both_ways_round(self):
        self.assertIs(less((1, 3), (1, 2)), True)
        self.assertIs(less((1, 2), (1, 3)), False)
        self.assertIs(less((-1, 2), (-1, 3)), True)
        self.assertIs(less((-1, 3), (-1, 2)), False)
        self.assertIs(less((-1, 9), (0, 1)), True)
        self.assertIs(less((0, 1), (-1, 9)), False)
        self.assertIs(less((1, GREAT), (1, GREAT - 1)), True)
        self.assertIs(less((1, GREAT - 1), (1, GREAT)), False)

    def test_of_the_same_number(self):
        for one in NUMBERS:
            self.assertIs(less(one, one), False)

    def test_as_the_difference_stands(self):
        for one, other in PAIRS:
            self.assertIs(less(one, other), minus(one, other)[0] < 0)
            self.assertIs(less(one, other), as_fraction(one) < as_fraction(other))


class IsNumber(GlowCase):
    def test_true_of_numbers(self):
        for one in NUMBERS:
            self.assertIs(is_number(one), True, one)
        self.assertIs(is_number((10 ** 3000, 7 ** 2000)), True)

    def test_false_of_other_things(self):
        for thing in NO_NUMBERS:
            self.assertIs(is_number(thing), False, thing)

    def test_small_ones_all(self):
        for top in range(-25, 26):
            for bottom in range(-25, 26):
                wanted = bottom != 0 and as_number(as_fraction((top, bottom))) == (top, bottom)
                self.assertIs(is_number((top, bottom)), wanted, (top, bottom))

    def test_what_is_asked_of_stays_as_it_is(self):
        thing = ([1, 2], 3)
        self.assertIs(is_number(thing), False)
        self.assertEqual(thing, ([1, 2], 3))


class HandedInAgain(GlowCase):
    def test_with_as_many_figures_as_it_has(self):
        told = (1, 1)
        for one in ((GREAT, GREAT - 1), (-GREAT + 2, GREAT - 3)) * 12:
            told = times(told, one)
            self.assertIs(is_number(told), True)
        self.assertGreater(told[1], 10 ** 600)
        self.is_plain_number(plus(told, (1, GREAT)))
        self.assertEqual(minus(plus(told, (1, GREAT)), told), (1, GREAT))
        self.assertEqual(over(times(told, (2, 3)), told), (2, 3))
        self.assertIs(less(told, plus(told, (1, GREAT))), True)
        self.assertEqual(number(told[0] * GREAT, told[1] * GREAT), told)

    def test_refused_with_any_figures(self):
        # Python doesn't write numbers of so many figures, so the refusal mustn't try to.
        self.refused("NoNumber", number, 10 ** 5000, 0)
        self.refused("NoNumber", over, (10 ** 5000, 3), (0, 1))


if __name__ == "__main__":
    unittest.main()
