"""Points 7, 8 and 10, and point 2 as far as it speaks of swarms."""

import unittest
from fractions import Fraction
from math import gcd

from glowflock.histories import behind
from glowflock.swarms import flocks, glow, moved, swarm_of
from helper import (
    EVEN, FALLING, GREAT, NO_NUMBERS, RISING, RULES, GlowCase, as_fraction, as_number, sample_swarms,
)

RULE = ((3, 2), (1, 12))
PHASES = ((1, 2), (0, 1), (59, 60))
NO_RULES = (
    [(3, 2), (1, 12)], [], (), ((3, 2),), ((3, 2), (1, 12), (0, 1)), ((3, 2), [1, 12]), ([3, 2], (1, 12)),
    (3, 2), (3, 2, 1, 12), ((6, 4), (1, 12)), ((3, 2), (2, 24)), ((3, 2), (True, 1)), ((3, 2), None),
    ((0, 1), (1, 1)), ((-1, 2), (1, 1)), ((33, 8), (0, 1)), ((5, 1), (0, 1)), ((10, 9), (0, 1)),
    ((3, 2), (-1, 12)), ((3, 2), (13, 12)), ((3, 2), (1, 13)), ((1, 2), (5, 11)), ((7, 8), (0, 1)),
    None, True, False, 0, 1, "", "rule", "ab", b"ab", {}, {(3, 2): (1, 12)}, {(3, 2), (1, 12)}, 1.5, object(),
    iter(((3, 2), (1, 12))), Fraction(3, 2), len, (GREAT, 1), ((GREAT, 1), (1, 2)),
)
NO_PHASES = (
    [], (), [(0, 1)] * 9, ((1, 2),) * 9, [(0, 1)] * 100,
    [(1, 1)], ((1, 1),), [(0, 1), (1, 1)], [(61, 60)], [(2, 1)], [(GREAT, 1)], [(-1, 60)], [(-1, 1)], [(-1, 2), (0, 1)],
    [(1, 61)], [(60, 61)], [(0, 1), (30, 61)], [(1, GREAT)], [(1, 2), (1, 3), (1, 120)],
    (0, 1), [0, 1], (1, 2), [0], [None], [[]], [()],
    None, True, False, 0, 1, 0.5, "", "worms", b"ab", {}, {(0, 1): (1, 2)}, {(0, 1)}, frozenset({(0, 1)}),
    object(), len, range(1), iter([(0, 1)]), Fraction(1, 2), {0: (0, 1)}, {(0, 1): True}.keys(),
)


class Made(GlowCase):
    def makes(self, rule, phases):
        told = swarm_of(rule, phases)
        self.assertIs(type(told), tuple)
        self.assertIs(type(told[1]), tuple)
        self.assertEqual(told, (rule, tuple(phases)))

    def test_of_one_to_eight_phases_in_a_list_and_in_a_tuple(self):
        for rule, phases in sample_swarms(1, RULES, 4):
            self.makes(rule, phases)
            self.makes(rule, list(phases))

    def test_all_alike_and_all_unlike(self):
        self.makes(RULE, [(0, 1)])
        self.makes(RULE, [(0, 1)] * 8)
        self.makes(RULE, [(59, 60)] * 8)
        self.makes(RULE, [(top, 9) for top in (8, 1, 7, 2, 4, 5)])

    def test_bottoms_to_60(self):
        for bottom in range(1, 66):
            for top in range(-1, bottom + 2):
                if gcd(top, bottom) != 1:
                    continue
                if bottom <= 60 and 0 <= top < bottom:
                    self.makes(RULE, [(top, bottom)])
                    self.makes(RULE, ((0, 1), (top, bottom)))
                else:
                    self.refused("NoSwarm", swarm_of, RULE, [(top, bottom)])
                    self.refused("NoSwarm", swarm_of, RULE, ((0, 1), (top, bottom)))

    def test_no_phases(self):
        for thing in NO_PHASES:
            self.refused("NoSwarm", swarm_of, RULE, thing)

    def test_a_phase_that_is_no_number_in_each_place(self):
        for thing in NO_NUMBERS:
            for place in (0, 3, 7):
                phases = [(0, 1)] * 8
                phases[place] = thing
                self.refused("NoSwarm", swarm_of, RULE, phases)
                self.refused("NoSwarm", swarm_of, RULE, tuple(phases))
            self.refused("NoSwarm", swarm_of, RULE, [thing])

    def test_no_rule(self):
        for thing in NO_RULES + NO_NUMBERS:
            self.refused("NoRule", swarm_of, thing, list(PHASES))
            self.refused("NoRule", swarm_of, thing, PHASES)

    def test_no_rule_goes_ahead_of_no_swarm(self):
        for thing in NO_RULES:
            for other in NO_PHASES:
                self.refused("NoRule", swarm_of, thing, other)

    def test_the_list_stays_and_is_not_kept(self):
        phases = list(PHASES)
        told = swarm_of(RULE, phases)
        self.assertEqual(phases, list(PHASES))
        phases[0] = (1, 7)
        phases.append((0, 1))
        self.assertEqual(told, (RULE, PHASES))
        self.assertEqual(swarm_of(RULE, list(PHASES)), (RULE, PHASES))

    def test_what_is_refused_stays_as_it_is(self):
        phases = [(0, 1), (1, 1)]
        rule = [(3, 2), (1, 12)]
        self.refused("NoSwarm", swarm_of, RULE, phases)
        self.refused("NoRule", swarm_of, rule, phases)
        self.assertEqual((rule, phases), ([(3, 2), (1, 12)], [(0, 1), (1, 1)]))


class Flocks(GlowCase):
    def test_unlike_alike_and_mixed(self):
        self.assertEqual(flocks((RULE, ((1, 2),))), [((1, 2), (0,))])
        self.assertEqual(flocks((RULE, ((0, 1),) * 8)), [((0, 1), (0, 1, 2, 3, 4, 5, 6, 7))])
        self.assertEqual(
            flocks((RULE, ((1, 3), (1, 2), (0, 1), (2, 5)))),
            [((1, 2), (1,)), ((2, 5), (3,)), ((1, 3), (0,)), ((0, 1), (2,))],
        )
        self.assertEqual(
            flocks((RULE, ((1, 60), (7, 8), (0, 1), (7, 8), (1, 60), (0, 1), (1, 60), (6, 7)))),
            [((7, 8), (1, 3)), ((6, 7), (7,)), ((1, 60), (0, 4, 6)), ((0, 1), (2, 5))],
        )

    def test_each_worm_stands_once_by_its_phase_from_the_greatest_down(self):
        for swarm in sample_swarms(2, RULES, 3):
            told = flocks(swarm)
            self.assertIs(type(told), list)
            wanted = []
            for phase in sorted(set(swarm[1]), key=as_fraction, reverse=True):
                wanted.append((phase, tuple(worm for worm, own in enumerate(swarm[1]) if own == phase)))
            self.assertEqual(told, wanted)
            self.assertEqual([(type(row), type(row[1])) for row in told], [(tuple, tuple)] * len(told))

    def test_the_told_list_is_the_askers_own(self):
        swarm = (RULE, PHASES)
        first = flocks(swarm)
        kept = list(first)
        first.reverse()
        first.append("more")
        self.assertEqual(flocks(swarm), kept)
        self.assertEqual(swarm, (RULE, PHASES))

    def test_of_told_swarms_with_many_figures(self):
        swarm = behind((((7, 8), (1, 8)), ((1, 2), (0, 1), (1, 3), (0, 1))), 40)[1]
        self.assertGreater(max(phase[1] for phase in swarm[1]), 10 ** 30)
        self.assertEqual([row[1] for row in flocks(swarm)], [(2,), (1, 3), (0,)])


class Moved(GlowCase):
    def test_by_nought_less_and_more(self):
        swarm = (RULE, ((1, 2), (0, 1), (1, 3)))
        self.assertEqual(moved(swarm, (0, 1)), swarm)
        self.assertEqual(moved(swarm, (1, 3)), (RULE, ((5, 6), (1, 3), (2, 3))))
        self.assertEqual(moved(swarm, (29, 60)), (RULE, ((59, 60), (29, 60), (49, 60))))
        for c in ((1, 2), (31, 60), (2, 3), (1, 1), (7, 1), (-1, 60), (-1, 1), (-GREAT, 1), (GREAT, 1)):
            self.refused("NoSwarm", moved, swarm, c)

    def test_where_the_greatest_phase_stands_behind(self):
        swarm = (RULE, ((0, 1), (1, 4), (9, 10)))
        self.assertEqual(moved(swarm, (1, 11)), (RULE, ((1, 11), (15, 44), (109, 110))))
        self.refused("NoSwarm", moved, swarm, (1, 10))

    def test_to_bottoms_beyond_60(self):
        told = moved((RULE, ((0, 1), (1, 2))), (1, GREAT))
        self.assertEqual(told, (RULE, ((1, GREAT), as_number(Fraction(1, 2) + Fraction(1, GREAT)))))
        self.assertEqual(moved(told, (1, 3))[1][0], as_number(Fraction(1, 3) + Fraction(1, GREAT)))

    def test_at_the_wait_and_beside_it(self):
        near = Fraction(1, GREAT)
        for swarm in sample_swarms(3, RULES, 2):
            wait = as_fraction(glow(swarm)[0])
            self.refused("NoSwarm", moved, swarm, as_number(wait))
            self.refused("NoSwarm", moved, swarm, as_number(wait + near))
            self.refused("NoSwarm", moved, swarm, as_number(-near))
            for c in (Fraction(0), near, wait / 2, wait - near):
                told = moved(swarm, as_number(c))
                self.assertEqual(told, (swarm[0], tuple(as_number(as_fraction(phase) + c) for phase in swarm[1])))

    def test_nothing_but_the_hours_is_changed(self):
        for swarm in sample_swarms(4, RISING[:3] + EVEN[:3] + FALLING[:3], 1):
            told = glow(swarm)
            half = as_number(as_fraction(told[0]) / 2)
            self.assertEqual(glow(moved(swarm, half)), (half, told[1], told[2]))


if __name__ == "__main__":
    unittest.main()
