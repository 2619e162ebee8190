"""Point 23, and points 2 and 3 as far as they speak of two flocks."""

import unittest
from fractions import Fraction

from glowflock.pairs import stretch
from glowflock.still import free_rounds, rounds_behind, still
from helper import (
    EVEN, FALLING, RISING, RULES, GlowCase, as_fraction, as_number, round_glow_by_glow, swarm_laid, walked, Draws,
)

DOUBLE = ((2, 1), (0, 1))
QUARTER = ((1, 1), (1, 4))
HALF = ((1, 2), (1, 2))
PAIRS = [(one, other) for one in range(1, 8) for other in range(1, 9 - one)]


def free_from(rule, sizes, x, most):
    """How many rounds are free from x on, at most so many, each gone through glow by glow."""
    count = 0
    while count < most and 0 < x < 1:
        places, time, ends = round_glow_by_glow(rule, sizes, (as_number(x),))
        if max(as_fraction(top) for top in ends) >= 1:
            break
        x = as_fraction(places[0])
        count += 1
    return count


class Stretch(GlowCase):
    def fits(self, rule, sizes, many):
        told = stretch(rule, sizes, many)
        asked = (rule, sizes, many)
        if told is None:
            self.assertEqual(self.free_ones(rule, sizes, many), [], asked)
            return False
        self.assertIs(type(told), tuple)
        self.assertEqual(len(told), 2)
        for end in told:
            self.is_plain_number(end)
        low, high = as_fraction(told[0]), as_fraction(told[1])
        self.assertLess(low, high, asked)
        near = (high - low) / 10 ** 9
        for x in (low + near, (low + high) / 2, high - near):
            self.assertEqual(free_from(rule, sizes, x, many), many, asked)
        for x in (low, low - near, high, high + near):
            self.assertLess(free_from(rule, sizes, x, many), many, asked)
        return True

    def free_ones(self, rule, sizes, many):
        tried = [Fraction(top, 30) for top in range(1, 30)]
        rest = still(rule, sizes)
        if rest is not None:
            middle = as_fraction(rest[0])
            tried.extend([middle, middle - Fraction(1, 10 ** 30), middle + Fraction(1, 10 ** 30)])
        return [x for x in tried if free_from(rule, sizes, x, many) == many]

    def test_by_hand(self):
        self.assertEqual(stretch(DOUBLE, (1, 1), 1), ((1, 2), (3, 4)))
        self.assertEqual(stretch(DOUBLE, (1, 1), 2), ((5, 8), (11, 16)))
        self.assertEqual(stretch(QUARTER, (1, 1), 1), ((1, 4), (1, 1)))
        self.assertEqual(stretch(QUARTER, (1, 1), 30), ((1, 4), (1, 1)))
        self.assertEqual(stretch(QUARTER, (1, 2), 1), ((1, 4), (3, 4)))
        self.assertEqual(stretch(QUARTER, (1, 2), 2), ((1, 4), (1, 2)))
        self.assertEqual(stretch(QUARTER, (2, 1), 2), ((3, 4), (1, 1)))
        self.assertEqual(stretch(HALF, (1, 1), 1), ((0, 1), (1, 1)))
        self.assertEqual(stretch(HALF, (3, 2), 30), ((0, 1), (1, 1)))

    def test_none_by_hand(self):
        # Low and high would be alike here; further on low would be the greater one.
        self.assertIsNone(stretch(QUARTER, (1, 2), 3))
        self.assertIsNone(stretch(QUARTER, (1, 2), 4))
        self.assertIsNone(stretch(QUARTER, (4, 4), 1))
        self.assertIsNone(stretch(((1, 1), (1, 1)), (1, 1), 1))
        self.assertIsNone(stretch(((4, 1), (1, 1)), (1, 1), 1))
        self.assertIsNone(stretch(((1, 8), (1, 1)), (7, 1), 30))

    def test_each_pair_of_sizes(self):
        seen = {}
        for rule in RULES:
            for sizes in PAIRS:
                for many in (1, 2):
                    seen[(rule in RISING, rule in FALLING, self.fits(rule, sizes, many))] = True
        # Rising, even and falling ones, each with places and without.
        self.assertEqual(len(seen), 6)

    def test_up_to_30_rounds(self):
        for rule, pairs in (
            (RISING[0], ((1, 1), (1, 2), (3, 1))), (RISING[1], ((1, 1), (2, 1))), (EVEN[0], ((1, 1), (2, 5))),
            (EVEN[1], ((1, 1), (1, 2), (2, 1), (3, 3), (1, 4))), (FALLING[0], ((1, 1), (1, 2), (4, 4))),
            (FALLING[1], ((1, 1), (2, 1))), (FALLING[4], ((1, 1), (2, 1), (1, 2))),
        ):
            for sizes in pairs:
                for many in (3, 5, 11, 29, 30):
                    self.fits(rule, sizes, many)

    def test_each_count_of_rounds(self):
        for many in range(1, 31):
            self.assertTrue(self.fits(RISING[0], (1, 1), many))
            self.assertEqual(self.fits(EVEN[1], (1, 2), many), many < 11)
            self.assertTrue(self.fits(FALLING[4], (1, 1), many))

    def test_more_rounds_are_free_from_fewer_places(self):
        for rule in RULES:
            for sizes in PAIRS[::3]:
                before = stretch(rule, sizes, 1)
                for many in range(2, 31):
                    told = stretch(rule, sizes, many)
                    if told is not None:
                        self.assertIsNotNone(before)
                        self.assertLessEqual(as_fraction(before[0]), as_fraction(told[0]))
                        self.assertLessEqual(as_fraction(told[1]), as_fraction(before[1]))
                    before = told

    def test_the_free_rounds_that_are_told(self):
        for rule, sizes in ((RISING[0], (1, 1)), (RISING[1], (2, 1)), (EVEN[1], (1, 2)), (EVEN[1], (5, 2))):
            for many in (1, 2, 5, 8, 29):
                told, more = stretch(rule, sizes, many), stretch(rule, sizes, many + 1)
                if told is None:
                    continue
                inner = more if more is not None else (told[1], told[1])
                for low, high in ((told[0], inner[0]), (inner[1], told[1])):
                    if as_fraction(low) < as_fraction(high):
                        x = (as_fraction(low) + as_fraction(high)) / 2
                        self.assertEqual(free_rounds(rule, sizes, (as_number(x),)), many)

    def test_what_is_told_is_handed_in_again(self):
        for rule in (RISING[0], RISING[2], FALLING[1], FALLING[2]):
            low, high = stretch(rule, (1, 1), 30)
            for end in (low, high):
                self.assertLess(free_rounds(rule, (1, 1), (end,)) or 0, 30)
                self.is_plain_number(rounds_behind(rule, (1, 1), (end,), 30)[0])

    def test_the_swarm_does_so(self):
        draws = Draws(90)
        for rule in (RISING[0], EVEN[1], FALLING[4]):
            for sizes in ((1, 1), (1, 2)):
                told = stretch(rule, sizes, 4)
                low, high = as_fraction(told[0]), as_fraction(told[1])
                for x, joins in ((low + (high - low) / 50, False), (high - (high - low) / 50, False)):
                    swarm = swarm_laid(rule, sizes, (as_number(x),), draws)
                    self.assertEqual(walked(swarm, 8)[2], 0)
                if low > 0:
                    swarm = swarm_laid(rule, sizes, (as_number(low),), draws)
                    self.assertGreater(walked(swarm, 8)[2], 0)
                if high < 1:
                    swarm = swarm_laid(rule, sizes, (as_number(high),), draws)
                    self.assertGreater(walked(swarm, 8)[2], 0)

    def test_asked_again_the_same(self):
        for rule in RULES:
            told = [stretch(rule, (1, 2), 3) for done in range(3)]
            self.assertEqual(told, told[:1] * 3)


if __name__ == "__main__":
    unittest.main()
