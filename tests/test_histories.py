"""Points 11 and 12, and points 2 and 3 as far as they speak of histories."""

import unittest

from glowflock.histories import behind, history
from glowflock.swarms import flocks, glow, moved
from helper import (
    EVEN, FALLING, RISING, RULES, Draws, GlowCase, as_fraction, as_number, glow_push_by_push, sample_swarms,
)

SAMPLES = sample_swarms(10, RULES, 1)
LONG = [swarm for swarm in sample_swarms(11, RISING[:2] + EVEN[1:3] + FALLING[:3], 1) if len(swarm[1]) in (2, 5, 8)]


def walked(swarm, many):
    rows = []
    hour = 0
    for done in range(many):
        wait, waves, swarm = glow_push_by_push(swarm)
        hour += as_fraction(wait)
        rows.append((as_number(hour), waves, swarm[1]))
    return rows


class Told(GlowCase):
    def test_by_hand(self):
        swarm = (((1, 1), (1, 4)), ((1, 3), (0, 1)))
        self.assertEqual(
            history(swarm, 5),
            [
                ((2, 3), ((0,),), ((0, 1), (11, 12))),
                ((3, 4), ((1,),), ((1, 3), (0, 1))),
                ((17, 12), ((0,),), ((0, 1), (11, 12))),
                ((3, 2), ((1,),), ((1, 3), (0, 1))),
                ((13, 6), ((0,),), ((0, 1), (11, 12))),
            ],
        )
        self.assertEqual(behind(swarm, 5), ((13, 6), (((1, 1), (1, 4)), ((0, 1), (11, 12)))))

    def test_of_no_glow(self):
        for swarm in SAMPLES:
            self.assertEqual(history(swarm, 0), [])
            self.assertEqual(behind(swarm, 0), ((0, 1), swarm))

    def test_of_one_glow(self):
        for swarm in SAMPLES:
            wait, waves, anew = glow(swarm)
            self.assertEqual(history(swarm, 1), [(wait, waves, anew[1])])
            self.assertEqual(behind(swarm, 1), (wait, anew))

    def test_of_few_glows_push_by_push(self):
        for swarm in SAMPLES:
            told = history(swarm, 6)
            self.assertIs(type(told), list)
            self.assertEqual([type(row) for row in told], [tuple] * 6)
            self.assertEqual(told, walked(swarm, 6))

    def test_of_40_glows_push_by_push(self):
        for swarm in LONG:
            told = history(swarm, 40)
            self.assertEqual(told, walked(swarm, 40))
            for many in (1, 2, 7, 39, 40):
                hour, waves, phases = told[many - 1]
                self.assertEqual(history(swarm, many), told[:many])
                self.assertEqual(behind(swarm, many), (hour, (swarm[0], phases)))

    def test_hours_are_the_sums_of_the_waits(self):
        for swarm in SAMPLES:
            stand = swarm
            hour = 0
            for row in history(swarm, 8):
                wait, waves, stand = glow(stand)
                hour += as_fraction(wait)
                self.assertEqual(row, (as_number(hour), waves, stand[1]))

    def test_one_count_and_then_another(self):
        for swarm in LONG:
            for one, other in ((0, 9), (9, 0), (1, 1), (3, 8), (20, 20), (39, 1)):
                first = behind(swarm, one)
                second = behind(first[1], other)
                both = as_number(as_fraction(first[0]) + as_fraction(second[0]))
                self.assertEqual((both, second[1]), behind(swarm, one + other))

    def test_a_told_swarm_handed_in_again(self):
        swarm = (((7, 8), (1, 8)), ((1, 2), (0, 1), (1, 3), (0, 1), (5, 7)))
        later = behind(behind(swarm, 40)[1], 40)[1]
        self.assertEqual(history(later, 20), walked(later, 20))

    def test_the_told_list_is_the_askers_own(self):
        for swarm in SAMPLES[:20]:
            first = history(swarm, 5)
            kept = list(first)
            first.pop()
            first[0] = None
            self.assertEqual(history(swarm, 5), kept)
            self.assertEqual(behind(swarm, 5)[1][1], kept[-1][2])


class Follows(GlowCase):
    def test_worms_of_one_phase_stay_so(self):
        for swarm in SAMPLES:
            ahead = swarm[1]
            for hour, waves, phases in history(swarm, 10):
                for one in range(len(phases)):
                    for other in range(len(phases)):
                        if ahead[one] == ahead[other]:
                            self.assertEqual(phases[one], phases[other])
                        elif phases[one] == phases[other]:
                            glowed = [worm for wave in waves for worm in wave]
                            self.assertIn(one, glowed)
                            self.assertIn(other, glowed)
                ahead = phases

    def test_fewer_flocks_just_where_a_glow_joins(self):
        seen = set()
        for swarm in SAMPLES:
            ahead = swarm
            for hour, waves, phases in history(swarm, 10):
                anew = (swarm[0], phases)
                fewer = len(flocks(ahead)) - len(flocks(anew))
                self.assertGreaterEqual(fewer, len(waves) - 1)
                self.assertEqual(fewer > 0, len(waves) > 1)
                seen.add(fewer)
                ahead = anew
        self.assertTrue({0, 1, 2} <= seen)

    def test_hours_rise(self):
        for swarm in SAMPLES:
            hours = [0] + [as_fraction(row[0]) for row in history(swarm, 10)]
            for one, other in zip(hours, hours[1:]):
                self.assertLess(one, other)

    def test_flocks_that_do_not_join_glow_by_turns(self):
        found = 0
        for swarm in SAMPLES:
            order = [row[1] for row in flocks(swarm)]
            rows = history(swarm, 2 * len(order) + 1)
            if all(len(row[1]) == 1 for row in rows):
                found += 1
                self.assertEqual([row[1][0] for row in rows], (order * 3)[:len(rows)])
        self.assertGreater(found, 20)

    def test_moved_alike_changes_the_hours_alone(self):
        for swarm in SAMPLES[::3]:
            part = as_fraction(glow(swarm)[0]) / 3
            other = history(moved(swarm, as_number(part)), 6)
            later = [(as_number(as_fraction(hour) + part), waves, phases) for hour, waves, phases in other]
            self.assertEqual(later, history(swarm, 6))

    def test_worms_exchanged_exchange_all(self):
        draws = Draws(12)
        for rule, phases in SAMPLES[::3]:
            order = draws.shuffled(range(len(phases)))
            turned = [None] * len(phases)
            for worm, phase in enumerate(phases):
                turned[order[worm]] = phase
            rows = zip(history((rule, phases), 6), history((rule, tuple(turned)), 6))
            for one, other in rows:
                self.assertEqual(one[0], other[0])
                waves = tuple(tuple(sorted(order[worm] for worm in wave)) for wave in one[1])
                self.assertEqual(waves, other[1])
                self.assertEqual(one[2], tuple(other[2][place] for place in order))


if __name__ == "__main__":
    unittest.main()
