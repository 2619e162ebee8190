"""Points 17 to 19, and points 2 and 3 as far as they speak of many rounds."""

import unittest
from fractions import Fraction

from glowflock.histories import behind
from glowflock.rounds import is_free, laid, round_behind, round_map, round_time, tops
from glowflock.still import free_rounds, rounds_behind, rounds_time, still
from helper import (
    EVEN, FALLING, GREAT, RISING, RULES, SIZES, Draws, GlowCase, as_fraction, as_number, round_glow_by_glow,
    swarm_laid,
)

SLOW = ((9, 8), (1, 12))
QUARTER = ((1, 1), (1, 4))


def away(rule, sizes, places):
    return [as_fraction(place) - as_fraction(rest) for place, rest in zip(places, still(rule, sizes))]


def beside(rule, sizes, steps):
    """The places that lie such steps off the still ones."""
    return tuple(as_number(as_fraction(rest) + step) for rest, step in zip(still(rule, sizes), steps))


def counted(rule, sizes, places, most):
    count = 0
    while count < most and is_free(rule, sizes, places):
        count += 1
        places = round_glow_by_glow(rule, sizes, places)[0]
    return count


class Still(GlowCase):
    def test_by_hand(self):
        self.assertEqual(still(((2, 1), (0, 1)), (1, 1)), ((2, 3),))
        self.assertEqual(still(((1, 2), (1, 2)), (1, 1)), ((2, 3),))
        self.assertEqual(still(SLOW, (1, 1)), ((29, 51),))
        self.assertEqual(still(((1, 2), (6, 11)), (1, 2, 1)), ((161, 165), (6, 11)))

    def test_a_round_leads_them_to_themselves(self):
        for rule in RISING + FALLING:
            for sizes in SIZES:
                told = still(rule, sizes)
                self.assertIs(type(told), tuple)
                self.assertEqual(len(told), len(sizes) - 1)
                for place in told:
                    self.is_plain_number(place)
                self.assertEqual(round_glow_by_glow(rule, sizes, told)[0], told)
                self.assertEqual(round_behind(rule, sizes, told), told)

    def test_no_others_are_led_to_themselves(self):
        for rule in RISING + FALLING:
            for sizes in SIZES:
                for turn in range(len(sizes) - 1):
                    for step in (Fraction(1, GREAT), Fraction(-1, 7), Fraction(3)):
                        steps = [step if other == turn else 0 for other in range(len(sizes) - 1)]
                        places = beside(rule, sizes, steps)
                        self.assertNotEqual(round_behind(rule, sizes, places), places)

    def test_of_one_flock(self):
        for size in range(1, 9):
            for rule in RISING + FALLING:
                self.assertEqual(still(rule, (size,)), ())
            for rule in EVEN:
                self.assertIsNone(still(rule, (size,)))

    def test_none_of_even_rules(self):
        for rule in EVEN:
            for sizes in SIZES:
                self.assertIsNone(still(rule, sizes))


class ManyRounds(GlowCase):
    def test_of_no_round(self):
        draws = Draws(40)
        for rule in RULES:
            for sizes in SIZES:
                places = draws.any_places(sizes)
                self.assertEqual(rounds_behind(rule, sizes, places, 0), places)
                self.assertEqual(rounds_time(rule, sizes, places, 0), (0, 1))

    def test_of_one_round(self):
        draws = Draws(41)
        for rule in RULES:
            for sizes in SIZES:
                places = draws.any_places(sizes)
                self.assertEqual(rounds_behind(rule, sizes, places, 1), round_behind(rule, sizes, places))
                self.assertEqual(rounds_time(rule, sizes, places, 1), round_time(rule, sizes, places))

    def walks(self, rule, sizes, places, most, asked):
        hour = Fraction(0)
        stand = places
        for many in range(most + 1):
            if many in asked:
                self.assertEqual(rounds_behind(rule, sizes, places, many), stand)
                self.assertEqual(rounds_time(rule, sizes, places, many), as_number(hour))
            stand, time, ends = round_glow_by_glow(rule, sizes, stand)
            hour += as_fraction(time)

    def test_round_by_round(self):
        draws = Draws(42)
        for rule in RULES:
            for sizes in SIZES:
                self.walks(rule, sizes, draws.any_places(sizes), 5, (2, 3, 5))
                self.walks(rule, sizes, draws.falling_places(sizes), 4, (4,))

    def test_all_counts_to_60(self):
        for rule in (RISING[1], EVEN[1], FALLING[2]):
            self.walks(rule, (2, 1), ((2, 5),), 60, range(61))
            self.walks(rule, (3,), (), 60, range(61))
        for rule in (RISING[5], FALLING[0], EVEN[2]):
            self.walks(rule, (1, 1, 2, 1), ((2, 5), (-7, 3), (GREAT, GREAT - 1)), 60, (31, 59, 60))

    def test_eight_flocks_to_60(self):
        self.walks(FALLING[1], (1,) * 8, Draws(43).falling_places((1,) * 8), 60, (60,))

    def test_of_one_flock(self):
        for rule in RULES:
            for many in (0, 1, 7, 60):
                self.assertEqual(rounds_behind(rule, (5,), (), many), ())
                self.assertEqual(rounds_time(rule, (5,), (), many), (many, 1))

    def test_one_count_and_then_another(self):
        draws = Draws(44)
        for rule in RULES:
            for one, other in ((0, 6), (6, 0), (4, 9), (30, 30)):
                places = draws.any_places((2, 1, 1))
                middle = rounds_behind(rule, (2, 1, 1), places, one)
                self.assertEqual(
                    rounds_behind(rule, (2, 1, 1), middle, other), rounds_behind(rule, (2, 1, 1), places, one + other)
                )
                hours = [rounds_time(rule, (2, 1, 1), places, one), rounds_time(rule, (2, 1, 1), middle, other)]
                both = rounds_time(rule, (2, 1, 1), places, one + other)
                self.assertEqual(sum(as_fraction(hour) for hour in hours), as_fraction(both))

    def test_the_way_off_the_still_places(self):
        draws = Draws(45)
        for rule in RISING + FALLING:
            for sizes in SIZES:
                factor = as_fraction(rule[0]) ** sum(sizes)
                places = draws.any_places(sizes)
                for many in (1, 2, 10):
                    later = away(rule, sizes, rounds_behind(rule, sizes, places, many))
                    self.assertEqual(later, [factor ** many * way for way in away(rule, sizes, places)])

    def test_even_rules_go_on_by_the_shifts(self):
        draws = Draws(46)
        for rule in EVEN:
            for sizes in SIZES:
                places = draws.any_places(sizes)
                shifts = round_map(rule, sizes)[1]
                for many in (1, 2, 60):
                    wanted = [as_fraction(one) + many * as_fraction(shift) for one, shift in zip(places, shifts)]
                    told = rounds_behind(rule, sizes, places, many)
                    self.assertEqual([as_fraction(place) for place in told], wanted)


class FreeRounds(GlowCase):
    def test_none_at_first(self):
        for rule in RULES:
            for place in ((0, 1), (1, 1), (-1, 2), (3, 2), (GREAT, 1)):
                self.assertEqual(free_rounds(rule, (1, 1), (place,)), 0)
            self.assertEqual(free_rounds(rule, (1, 1, 1), ((1, 3), (2, 3))), 0)
            self.assertEqual(free_rounds(rule, (1, 1, 1), ((1, 3), (1, 3))), 0)
        self.assertEqual(free_rounds(QUARTER, (1, 1), ((1, 4),)), 0)
        self.assertEqual(free_rounds(QUARTER, (1, 2), ((3, 4),)), 0)

    def test_still_places_whose_round_is_not_free(self):
        rule = ((31, 8), (11, 12))
        self.assertFalse(is_free(rule, (2, 1), still(rule, (2, 1))))
        self.assertEqual(free_rounds(rule, (2, 1), still(rule, (2, 1))), 0)

    def test_some_by_hand(self):
        # Each round brings 1/12 more, until the last top isn't below 1.
        self.assertEqual(free_rounds(((1, 1), (1, 12)), (1, 2), ((1, 6),)), 9)
        self.assertEqual(free_rounds(((1, 1), (1, 12)), (1, 2), ((1, 12),)), 0)
        self.assertEqual(free_rounds(((1, 1), (1, 12)), (1, 2), ((5, 6),)), 1)
        self.assertEqual(free_rounds(((1, 1), (1, 12)), (1, 2), ((11, 12),)), 0)

    def told(self, rule, sizes, places):
        wanted = counted(rule, sizes, places, 31)
        if wanted < 31:
            self.assertEqual(free_rounds(rule, sizes, places), wanted, (rule, sizes, places))
        return wanted

    def test_of_samples_round_by_round(self):
        draws = Draws(47)
        seen = {}
        for rule in RULES:
            for sizes in SIZES[:14]:
                for done in range(4):
                    seen[(rule[0], self.told(rule, sizes, draws.falling_places(sizes)))] = True
        for rules in (RISING, EVEN, FALLING):
            for count in (0, 1):
                self.assertTrue(any((rule[0], count) in seen for rule in rules), count)

    def test_some_of_a_falling_rule(self):
        rule = ((5, 7), (4, 11))
        for sizes, places, wanted in (
            ((1, 2, 1), ((29, 60), (11, 30)), 1),
            ((1, 2, 1), ((1, 2), (23, 60)), 2),
            ((1, 2, 1), ((11, 20), (13, 30)), 3),
            ((2, 1, 1), ((1, 2), (13, 60)), 2),
            ((2, 1, 1), ((13, 20), (13, 60)), 4),
        ):
            self.assertEqual(counted(rule, sizes, places, 40), wanted)
            self.assertEqual(free_rounds(rule, sizes, places), wanted)

    def last_free(self, rule, sizes):
        """Steps off the still places: of rounds that are free just once, above and below."""
        told = []
        for way in (1, -1):
            for top in range(1, 400):
                steps = [Fraction(way * top * (turn + 1), 400) for turn in range(len(sizes) - 1)]
                places = beside(rule, sizes, steps)
                if is_free(rule, sizes, places) and not is_free(rule, sizes, round_behind(rule, sizes, places)):
                    told.append(steps)
                    break
        return told

    def test_exactly_30_and_beyond(self):
        for rule, sizes in (
            (SLOW, (1, 1)), (SLOW, (2, 1)), (SLOW, (1, 2)), (SLOW, (1, 1, 1)), (RISING[0], (1, 2, 1)),
            (RISING[3], (2, 1, 1)),
        ):
            self.assertTrue(is_free(rule, sizes, still(rule, sizes)))
            factor = as_fraction(rule[0]) ** sum(sizes)
            found = self.last_free(rule, sizes)
            self.assertGreater(len(found), 0, (rule, sizes))
            for steps in found:
                for many in (1, 2, 17, 29, 30):
                    places = beside(rule, sizes, [step / factor ** (many - 1) for step in steps])
                    self.assertEqual(free_rounds(rule, sizes, places), many)
                    self.assertEqual(counted(rule, sizes, places, 40), many)
                for many in (31, 32, 60):
                    places = beside(rule, sizes, [step / factor ** (many - 1) for step in steps])
                    self.refused("TooLong", free_rounds, rule, sizes, places)

    def test_too_long_near_the_still_places(self):
        for sizes in ((1, 1), (2, 2), (1, 1, 1), (1,) * 8):
            self.assertIsNone(free_rounds(SLOW, sizes, still(SLOW, sizes)))
            steps = [Fraction(turn + 1, GREAT) for turn in range(len(sizes) - 1)]
            self.refused("TooLong", free_rounds, SLOW, sizes, beside(SLOW, sizes, steps))
            self.refused("TooLong", free_rounds, SLOW, sizes, beside(SLOW, sizes, [-step for step in steps]))

    def test_of_one_flock_all_are(self):
        for rule in RULES:
            for size in range(1, 9):
                self.assertIsNone(free_rounds(rule, (size,), ()))

    def test_all_of_a_rising_rule(self):
        found = 0
        for rule in RISING:
            for sizes in SIZES:
                places = still(rule, sizes)
                wanted = None if is_free(rule, sizes, places) else 0
                self.assertEqual(free_rounds(rule, sizes, places), wanted)
                found += len(sizes) > 1 and wanted is None
        self.assertGreater(found, 10)

    def test_all_of_an_even_rule(self):
        self.assertIsNone(free_rounds(QUARTER, (1, 1), ((1, 3),)))
        self.assertIsNone(free_rounds(((1, 1), (0, 1)), (1, 5), ((1, 3),)))
        self.assertIsNone(free_rounds(((1, 1), (1, 12)), (2, 2, 2), ((2, 3), (1, 3))))
        draws = Draws(48)
        seen = {}
        for rule in EVEN:
            for sizes in SIZES:
                places = draws.falling_places(sizes)
                if not is_free(rule, sizes, places):
                    continue
                told = free_rounds(rule, sizes, places)
                alike = rule[1] == (0, 1) or len(set(sizes)) == 1
                self.assertEqual(told is None, alike)
                seen[alike] = True
        self.assertEqual(sorted(seen), [False, True])

    def test_one_shift_of_0_and_one_that_is_not(self):
        rule = ((1, 1), (1, 12))
        self.assertEqual(round_map(rule, (1, 2, 1))[1], ((0, 1), (-1, 12)))
        places = ((3, 4), (1, 2))
        self.assertEqual(free_rounds(rule, (1, 2, 1), places), counted(rule, (1, 2, 1), places, 40))
        self.assertEqual(round_map(rule, (2, 1, 1))[1], ((-1, 12), (0, 1)))
        self.assertEqual(free_rounds(rule, (2, 1, 1), places), counted(rule, (2, 1, 1), places, 40))

    def test_all_of_a_falling_rule(self):
        draws = Draws(49)
        seen = {}
        for rule in FALLING:
            for sizes in SIZES:
                above = any(as_fraction(top) > 1 for top in tops(rule, sizes, still(rule, sizes)))
                for done in range(6):
                    places = draws.falling_places(sizes)
                    if not is_free(rule, sizes, places):
                        continue
                    told = free_rounds(rule, sizes, places)
                    self.assertEqual(told is None, not above)
                    if told is None:
                        self.assertEqual(counted(rule, sizes, places, 8), 8)
                    seen[above] = True
        self.assertEqual(sorted(seen), [False, True])

    def test_all_where_a_top_of_the_still_places_is_just_1(self):
        for rule, sizes, places in (
            (((1, 2), (3, 5)), (2, 1), ((31, 50),)),
            (((1, 2), (3, 5)), (2, 1), ((7, 10),)),
            (((1, 3), (8, 11)), (2, 1), ((3, 4),)),
            (((2, 3), (5, 11)), (2, 1), ((1, 2),)),
        ):
            ends = tops(rule, sizes, still(rule, sizes))
            self.assertEqual(max(as_fraction(top) for top in ends), 1)
            self.assertEqual(free_rounds(rule, sizes, still(rule, sizes)), 0)
            self.assertEqual(counted(rule, sizes, places, 60), 60)
            self.assertIsNone(free_rounds(rule, sizes, places))

    def test_where_the_first_and_the_last_are_free_so_are_all_between(self):
        draws = Draws(50)
        for rule in RULES:
            for sizes in SIZES:
                places = draws.falling_places(sizes)
                free = []
                for done in range(8):
                    free.append(is_free(rule, sizes, places))
                    places = round_behind(rule, sizes, places)
                if free[0]:
                    self.assertEqual(free, sorted(free, reverse=True))

    def test_free_rounds_are_what_the_swarm_does(self):
        draws = Draws(51)
        for rule, sizes in ((SLOW, (1, 1)), (QUARTER, (1, 2)), (FALLING[0], (2, 1, 1)), (RISING[0], (1, 1, 1))):
            for done in range(6):
                places = draws.falling_places(sizes)
                many = counted(rule, sizes, places, 5)
                hour, anew = behind(swarm_laid(rule, sizes, places, draws), many * len(sizes))
                self.assertEqual(laid(anew), (sizes, rounds_behind(rule, sizes, places, many)))
                self.assertEqual(hour, rounds_time(rule, sizes, places, many))


if __name__ == "__main__":
    unittest.main()
