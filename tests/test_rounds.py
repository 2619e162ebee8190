"""Points 13 to 16, and points 2 and 3 as far as they speak of rounds."""

import unittest
from fractions import Fraction

from glowflock.histories import behind, history
from glowflock.rounds import is_free, laid, round_behind, round_map, round_time, tops
from glowflock.swarms import moved
from helper import (
    EVEN, FALLING, GREAT, RISING, RULES, SIZES, Draws, GlowCase, as_fraction, as_number, round_glow_by_glow,
    sample_swarms, swarm_laid,
)

RULE = ((3, 2), (1, 12))
QUARTER = ((1, 1), (1, 4))
ALL_EVEN = ((1, 1), (0, 1))


def falling_samples(seed, each):
    draws = Draws(seed)
    return [(rule, sizes, draws.falling_places(sizes)) for rule in RULES for sizes in SIZES for done in range(each)]


def any_samples(seed, each):
    draws = Draws(seed)
    return [(rule, sizes, draws.any_places(sizes)) for rule in RULES for sizes in SIZES for done in range(each)]


class Laid(GlowCase):
    def test_by_hand(self):
        self.assertEqual(laid((RULE, ((0, 1),))), ((1,), ()))
        self.assertEqual(laid((RULE, ((0, 1),) * 8)), ((8,), ()))
        self.assertEqual(laid((RULE, ((0, 1), (59, 60)))), ((1, 1), ((59, 60),)))
        phases = ((1, 3), (0, 1), (1, 2), (1, 3), (0, 1), (1, 3))
        self.assertEqual(laid((RULE, phases)), ((1, 3, 2), ((1, 2), (1, 3))))

    def test_of_samples(self):
        for swarm in sample_swarms(20, RULES, 3):
            if (0, 1) not in swarm[1]:
                self.refused("NoStand", laid, swarm)
                continue
            told = laid(swarm)
            self.assertEqual([type(part) for part in (told, told[0], told[1])], [tuple] * 3)
            falling = sorted(set(swarm[1]), key=as_fraction, reverse=True)
            self.assertEqual(told, (tuple(swarm[1].count(phase) for phase in falling), tuple(falling[:-1])))

    def test_no_worm_at_0(self):
        self.refused("NoStand", laid, (RULE, ((1, 60),)))
        self.refused("NoStand", laid, (RULE, ((1, 2), (1, 2), (59, 60))))
        self.refused("NoStand", laid, moved((RULE, ((0, 1), (1, 2))), (1, GREAT)))

    def test_laid_behind_each_glow(self):
        for swarm in sample_swarms(21, RULES, 1):
            for many in (1, 2, 5):
                told = behind(swarm, many)[1]
                sizes, places = laid(told)
                self.assertEqual(sum(sizes), len(swarm[1]))
                self.assertEqual(set(places) | {(0, 1)}, set(told[1]))


class Rounds(GlowCase):
    def goes(self, rule, sizes, places):
        wanted = round_glow_by_glow(rule, sizes, places)
        told = (round_behind(rule, sizes, places), round_time(rule, sizes, places), tops(rule, sizes, places))
        self.assertEqual(told, wanted, (rule, sizes, places))
        self.assertEqual([type(part) for part in told], [tuple] * 3)
        self.assertEqual((len(told[0]), len(told[2])), (len(sizes) - 1, len(sizes)))

    def test_by_hand(self):
        self.assertEqual(round_behind(QUARTER, (1, 1), ((1, 3),)), ((1, 3),))
        self.assertEqual(round_time(QUARTER, (1, 1), ((1, 3),)), (3, 4))
        self.assertEqual(tops(QUARTER, (1, 1), ((1, 3),)), ((11, 12), (1, 3)))
        self.assertEqual(round_behind(QUARTER, (1, 2), ((1, 3),)), ((7, 12),))
        self.assertEqual(tops(QUARTER, (1, 2), ((1, 3),)), ((11, 12), (7, 12)))
        self.assertEqual(round_behind(((2, 1), (0, 1)), (2, 1), ((4, 5),)), ((2, 5),))
        self.assertEqual(round_time(((2, 1), (0, 1)), (2, 1), ((4, 5),)), (2, 5))

    def test_waits_below_0_and_nothing_ends_at_1(self):
        rule = ((2, 1), (1, 1))
        self.assertEqual(round_behind(rule, (1, 1), ((-1, 1),)), ((-7, 1),))
        self.assertEqual(round_time(rule, (1, 1), ((-1, 1),)), (-2, 1))
        self.assertEqual(tops(rule, (1, 1), ((-1, 1),)), ((5, 1), (-7, 1)))

    def test_three_flocks_by_hand(self):
        # 3/4 1/2 0, behind a quarter 0 7/8 3/8, behind an eighth 1/4 0 5/8, behind three more 3/4 1/2 0.
        places = ((3, 4), (1, 2))
        rule = ((1, 1), (1, 8))
        self.assertEqual(tops(rule, (1, 1, 1), places), ((7, 8), (5, 8), (3, 4)))
        self.assertEqual(round_behind(rule, (1, 1, 1), places), places)
        self.assertEqual(round_time(rule, (1, 1, 1), places), (3, 4))

    def test_of_one_flock(self):
        for rule in RULES:
            for size in range(1, 9):
                self.assertEqual(round_behind(rule, (size,), ()), ())
                self.assertEqual(round_time(rule, (size,), ()), (1, 1))
                self.assertEqual(tops(rule, (size,), ()), ((0, 1),))

    def test_falling_places_glow_by_glow(self):
        for rule, sizes, places in falling_samples(22, 1):
            self.goes(rule, sizes, places)

    def test_any_places_glow_by_glow(self):
        for rule, sizes, places in any_samples(23, 1):
            self.goes(rule, sizes, places)

    def test_places_of_sixty_figures(self):
        for rule in RULES:
            self.goes(rule, (2, 1), ((GREAT, GREAT - 1),))
            self.goes(rule, (1, 2, 1), ((-GREAT, 1), (1, GREAT)))
            self.goes(rule, (1, 1, 1, 1), ((1, GREAT), (GREAT - 2, GREAT - 3), (-GREAT, GREAT - 1)))

    def test_told_places_handed_in_again(self):
        for rule, sizes, places in any_samples(24, 1)[::5]:
            for done in range(3):
                places = round_behind(rule, sizes, places)
            self.goes(rule, sizes, places)

    def test_the_last_top_is_the_first_place_behind(self):
        for rule, sizes, places in any_samples(25, 1):
            if places:
                self.assertEqual(tops(rule, sizes, places)[-1], round_behind(rule, sizes, places)[0])


class Free(GlowCase):
    def frees(self, wanted, rule, sizes, places):
        self.assertIs(is_free(rule, sizes, places), wanted, (rule, sizes, places))

    def test_by_hand(self):
        self.frees(True, QUARTER, (1, 1), ((1, 3),))
        self.frees(True, QUARTER, (1, 1), ((59, 60),))
        self.frees(True, ALL_EVEN, (1, 2, 1, 1, 3), ((4, 5), (3, 5), (2, 5), (1, 5)))
        self.frees(True, ((1, 1), (1, 8)), (1, 1, 1), ((3, 4), (1, 2)))
        self.frees(False, QUARTER, (1, 1), ((1, 5),))

    def test_of_one_flock(self):
        for rule in RULES:
            for size in range(1, 9):
                self.frees(True, rule, (size,), ())

    def test_a_top_of_just_1(self):
        self.assertEqual(tops(QUARTER, (1, 1), ((1, 4),)), ((1, 1), (1, 4)))
        self.frees(False, QUARTER, (1, 1), ((1, 4),))
        self.frees(True, QUARTER, (1, 1), (as_number(Fraction(1, 4) + Fraction(1, GREAT)),))
        self.assertEqual(tops(QUARTER, (1, 2), ((3, 4),)), ((1, 2), (1, 1)))
        self.frees(False, QUARTER, (1, 2), ((3, 4),))
        self.frees(True, QUARTER, (1, 2), (as_number(Fraction(3, 4) - Fraction(1, GREAT)),))

    def test_a_top_between_of_just_1(self):
        rule = ((1, 1), (1, 8))
        self.assertEqual(tops(rule, (1, 1, 1), ((1, 2), (1, 8)))[1], (1, 1))
        self.frees(False, rule, (1, 1, 1), ((1, 2), (1, 8)))
        self.frees(True, rule, (1, 1, 1), ((1, 2), (1, 7)))

    def test_places_alike_or_exchanged(self):
        # By this rule nothing is pushed: of those that stand as places may, all tops are below 1.
        self.frees(True, ALL_EVEN, (1, 1, 1), ((2, 3), (1, 3)))
        self.frees(False, ALL_EVEN, (1, 1, 1), ((1, 3), (2, 3)))
        self.frees(False, ALL_EVEN, (1, 1, 1), ((1, 3), (1, 3)))
        self.frees(False, FALLING[0], (1, 1, 1), ((1, 3), (1, 3)))
        self.frees(False, FALLING[0], (1, 1, 1), ((1, 3), (2, 3)))

    def test_places_from_1_on_or_at_0_or_below(self):
        for rule in RULES:
            for place in ((1, 1), (61, 60), (7, 1), (0, 1), (-1, 60), (-7, 1), (GREAT, 1), (-GREAT, 1)):
                self.frees(False, rule, (1, 1), (place,))
                self.frees(False, rule, (1, 2), (place,))
                self.frees(False, rule, (1, 1, 1), (place, (1, 3)))
                self.frees(False, rule, (1, 1, 1), ((2, 3), place))

    def test_places_that_alone_are_amiss(self):
        found = 0
        for rule in RULES:
            for sizes in ((1, 2), (2, 1), (3, 1), (1, 1, 1), (1, 1, 2)):
                for top in range(-24, 49):
                    places = tuple(as_number(Fraction(top, 24) - turn) for turn in range(len(sizes) - 1))
                    fall = all(0 < as_fraction(place) < 1 for place in places)
                    below = all(as_fraction(top) < 1 for top in tops(rule, sizes, places))
                    self.frees(fall and below, rule, sizes, places)
                    found += below and not fall
        self.assertGreater(found, 0)

    def test_of_samples_as_told(self):
        free = 0
        for rule, sizes, places in falling_samples(26, 4) + any_samples(27, 2):
            steps = [Fraction(1)] + [as_fraction(place) for place in places] + [Fraction(0)]
            falls = all(one > other for one, other in zip(steps, steps[1:]))
            below = all(as_fraction(top) < 1 for top in round_glow_by_glow(rule, sizes, places)[2])
            self.frees(falls and below, rule, sizes, places)
            free += falls and below
        self.assertGreater(free, 200)

    def test_a_free_round_is_what_the_swarm_does(self):
        draws = Draws(28)
        seen = {}
        for rule, sizes, places in falling_samples(28, 4):
            swarm = swarm_laid(rule, sizes, places, draws)
            self.assertEqual(laid(swarm), (sizes, places))
            rows = history(swarm, len(sizes))
            joins = any(len(row[1]) > 1 for row in rows)
            self.frees(not joins, rule, sizes, places)
            if not joins:
                hour, anew = behind(swarm, len(sizes))
                self.assertEqual(laid(anew), (sizes, round_behind(rule, sizes, places)))
                self.assertEqual(hour, round_time(rule, sizes, places))
                self.assertEqual([len(row[1][0]) for row in rows], list(sizes))
            seen[(rule[0], joins)] = True
        for rules in (RISING, EVEN, FALLING):
            for joins in (True, False):
                self.assertTrue(any((rule[0], joins) in seen for rule in rules))


class Maps(GlowCase):
    def test_by_hand(self):
        self.assertEqual(round_map(QUARTER, (1, 1)), ((1, 1), ((0, 1),)))
        self.assertEqual(round_map(QUARTER, (1, 2)), ((1, 1), ((1, 4),)))
        self.assertEqual(round_map(QUARTER, (2, 1)), ((1, 1), ((-1, 4),)))
        self.assertEqual(round_map(((2, 1), (0, 1)), (1, 1)), ((4, 1), ((-2, 1),)))
        self.assertEqual(round_map(((1, 2), (1, 2)), (1, 1)), ((1, 4), ((1, 2),)))

    def test_the_factor_is_a_to_the_power_of_all_worms(self):
        for rule in RULES:
            for sizes in SIZES:
                told = round_map(rule, sizes)
                self.assertEqual([type(part) for part in (told, told[1])], [tuple] * 2)
                self.assertEqual(told[0], as_number(as_fraction(rule[0]) ** sum(sizes)))
                self.assertEqual(len(told[1]), len(sizes) - 1)
                for shift in told[1]:
                    self.is_plain_number(shift)

    def test_of_one_flock(self):
        for rule in RULES:
            for size in range(1, 9):
                self.assertEqual(round_map(rule, (size,)), (as_number(as_fraction(rule[0]) ** size), ()))

    def test_against_the_places_behind_a_round(self):
        for rule, sizes, places in falling_samples(29, 1) + any_samples(30, 1):
            factor, shifts = round_map(rule, sizes)
            wanted = [
                as_fraction(factor) * as_fraction(place) + as_fraction(shift) for place, shift in zip(places, shifts)
            ]
            self.assertEqual(round_glow_by_glow(rule, sizes, places)[0], tuple(as_number(place) for place in wanted))

    def test_asked_again_the_same(self):
        for rule in RULES:
            first = round_map(rule, (2, 1, 3))
            round_behind(rule, (2, 1, 3), ((1, 2), (1, 3)))
            self.assertEqual(round_map(rule, (2, 1, 3)), first)


if __name__ == "__main__":
    unittest.main()
