"""Point 9, and points 2 and 3 as far as they speak of glows."""

import unittest

from glowflock.histories import behind
from glowflock.swarms import flocks, glow
from helper import (
    EVEN, FALLING, RISING, RULES, Draws, GlowCase, as_fraction, glow_push_by_push, sample_swarms,
)


class ByHand(GlowCase):
    def glows(self, rule, phases, wait, waves, anew):
        self.assertEqual(glow((rule, phases)), (wait, waves, (rule, anew)))

    def test_of_one_worm(self):
        for rule in RULES:
            self.glows(rule, ((0, 1),), (1, 1), ((0,),), ((0, 1),))
            self.glows(rule, ((59, 60),), (1, 60), ((0,),), ((0, 1),))

    def test_of_all_worms_at_once(self):
        for rule in RULES:
            for worms in range(2, 9):
                wave = tuple(range(worms))
                self.glows(rule, ((1, 3),) * worms, (2, 3), (wave,), ((0, 1),) * worms)

    def test_one_wave(self):
        self.glows(((3, 2), (1, 12)), ((1, 2), (0, 1)), (1, 2), ((0,),), ((0, 1), (5, 6)))
        self.glows(((1, 1), (1, 4)), ((0, 1), (1, 3), (2, 3)), (1, 3), ((2,),), ((7, 12), (11, 12), (0, 1)))
        self.glows(((1, 2), (1, 2)), ((0, 1), (1, 2)), (1, 2), ((1,),), ((3, 4), (0, 1)))
        self.glows(((1, 1), (0, 1)), ((0, 1), (59, 60)), (1, 60), ((1,),), ((1, 60), (0, 1)))

    def test_a_wave_of_two_pushes_twice(self):
        self.glows(((1, 1), (1, 4)), ((1, 2), (0, 1), (1, 2)), (1, 2), ((0, 2), (1,)), ((0, 1),) * 3)
        self.glows(((1, 1), (1, 4)), ((2, 3), (0, 1), (2, 3)), (1, 3), ((0, 2),), ((0, 1), (5, 6), (0, 1)))
        self.glows(((2, 1), (0, 1)), ((4, 5), (0, 1), (4, 5)), (1, 5), ((0, 2),), ((0, 1), (4, 5), (0, 1)))
        self.glows(((1, 2), (1, 2)), ((4, 5), (0, 1), (4, 5)), (1, 5), ((0, 2),), ((0, 1), (4, 5), (0, 1)))

    def test_just_to_1_and_just_below_it(self):
        self.glows(((1, 1), (1, 4)), ((3, 4), (1, 2)), (1, 4), ((0,), (1,)), ((0, 1), (0, 1)))
        self.glows(((1, 1), (1, 4)), ((3, 4), (29, 60)), (1, 4), ((0,),), ((0, 1), (59, 60)))
        self.glows(((2, 1), (0, 1)), ((1, 2), (0, 1)), (1, 2), ((0,), (1,)), ((0, 1), (0, 1)))

    def test_waves_one_behind_the_other(self):
        phases = ((0, 1), (1, 4), (1, 2), (3, 4))
        self.glows(((1, 1), (1, 4)), phases, (1, 4), ((3,), (2,), (1,), (0,)), ((0, 1),) * 4)
        phases = ((3, 4), (1, 20), (1, 2), (1, 2))
        self.glows(((1, 1), (1, 4)), phases, (1, 4), ((0,), (2, 3), (1,)), ((0, 1),) * 4)

    def test_worms_of_a_wave_push_none_that_is_in_one(self):
        phases = ((3, 4), (1, 2), (0, 1))
        self.glows(((1, 1), (1, 4)), phases, (1, 4), ((0,), (1,)), ((0, 1), (0, 1), (3, 4)))

    def test_a_wave_and_some_left(self):
        phases = ((0, 1), (4, 5), (3, 4), (0, 1), (4, 5), (1, 5))
        rule = ((1, 1), (1, 12))
        self.glows(rule, phases, (1, 5), ((1, 4), (2,)), ((9, 20), (0, 1), (0, 1), (9, 20), (0, 1), (13, 20)))


class PushByPush(GlowCase):
    def test_all_samples(self):
        for swarm in sample_swarms(5, RULES, 12):
            told = glow(swarm)
            self.assertEqual([type(part) for part in told], [tuple] * 3)
            self.assertEqual([type(wave) for wave in told[1]], [tuple] * len(told[1]))
            self.assertEqual(told, glow_push_by_push(swarm), swarm)

    def test_the_samples_have_glows_of_each_sort(self):
        for rules in (RISING, EVEN, FALLING):
            counts = [len(glow(swarm)[1]) for swarm in sample_swarms(5, rules, 12)]
            self.assertIn(1, counts)
            self.assertIn(2, counts)
            self.assertIn(3, counts)

    def test_of_told_swarms(self):
        for swarm in sample_swarms(6, RULES, 1):
            later = behind(swarm, 12)[1]
            self.assertEqual(glow(later), glow_push_by_push(later))

    def test_any_rule_with_the_phases_of_a_told_one(self):
        later = behind((((7, 8), (1, 8)), ((1, 2), (0, 1), (1, 3), (3, 4))), 20)[1]
        for rule in RULES:
            swarm = (rule, later[1])
            self.assertEqual(glow(swarm), glow_push_by_push(swarm))

    def test_asked_again_the_same(self):
        for swarm in sample_swarms(7, RULES, 1):
            first = glow(swarm)
            glow(first[2])
            self.assertEqual(glow(swarm), first)

    def test_worms_exchanged_exchange_all(self):
        draws = Draws(8)
        for rule, phases in sample_swarms(8, RULES, 2):
            order = draws.shuffled(range(len(phases)))
            turned = [None] * len(phases)
            for worm, phase in enumerate(phases):
                turned[order[worm]] = phase
            wait, waves, anew = glow((rule, phases))
            other = glow((rule, tuple(turned)))
            self.assertEqual(other[0], wait)
            self.assertEqual(other[1], tuple(tuple(sorted(order[worm] for worm in wave)) for wave in waves))
            for worm, phase in enumerate(anew[1]):
                self.assertEqual(other[2][1][order[worm]], phase)

    def test_those_that_glowed_are_at_0_and_the_others_keep_their_order(self):
        for swarm in sample_swarms(9, RULES, 3):
            wait, waves, anew = glow(swarm)
            glowed = [worm for wave in waves for worm in wave]
            self.assertEqual(len(set(glowed)), len(glowed))
            left = [worm for worm in range(len(swarm[1])) if worm not in glowed]
            self.assertEqual({anew[1][worm] for worm in glowed}, {(0, 1)})
            self.assertEqual([row[1] for row in flocks(anew)][-1], tuple(sorted(glowed)))
            for worm in left:
                self.assertTrue(0 < as_fraction(anew[1][worm]) < 1)
                for other in left:
                    ahead = as_fraction(swarm[1][worm]) < as_fraction(swarm[1][other])
                    self.assertEqual(as_fraction(anew[1][worm]) < as_fraction(anew[1][other]), ahead)


if __name__ == "__main__":
    unittest.main()
