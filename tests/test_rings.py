"""Points 28 to 30, and point 2 as far as it speaks of rings."""

import unittest

from glowflock.rings import is_one, is_ring, ring
from glowflock.ticks import stand_behind, tick
from glowflock.webs import stand_of, web_of
from helper import Draws, GlowCase, is_same, sample_webs, tick_push_by_push

NONE = (0, 0)
# Whoever glows pushes the other one over the end, so that both glow as one from then on.
JOINED = web_of([4, 4], [[4] * 4, [4] * 4], [(0, 1, 0), (1, 0, 0)])
APART = web_of([3, 3], [[0] * 3, [0] * 3], [])


def walked_ring(web, stand, most):
    """Stand by stand until one comes again; None where they are more."""
    stands = []
    while stand not in stands:
        if len(stands) == most:
            return None
        stands.append(stand)
        stand = tick_push_by_push(web, stand)[1]
    first = stands.index(stand)
    return stands[:first], stands[first:]


def looked_at(web, stand, told):
    """Point 29 as its words go."""
    lead, again = told
    if not again or (lead or again)[0] != stand:
        return False
    pairs = list(zip(lead + again, (lead + again)[1:])) + [(again[-1], again[0])]
    return all(tick_push_by_push(web, one)[1] == other for one, other in pairs)


def sample_rings(seed, each, most=400):
    """Webs, stands and their rings, of those that come round soon enough."""
    told = []
    for web, phases in sample_webs(seed, each):
        stand = stand_of(web, phases)
        both = walked_ring(web, stand, most)
        if both is not None:
            told.append((web, stand, both))
    return told


def web_of_many_stands(phase):
    """2992 stands by the rounds of three worms alone, and two worms that become one ahead of these."""
    rounds = [16, 11, 17, 16, 16]
    ups = [[0] * 16, [0] * 11, [0] * 17, [0] * 16, [60] * 16]
    web = web_of(rounds, ups, [(3, 4, 0)])
    return web, stand_of(web, [0, 0, 0, phase, 0])


class ByHand(GlowCase):
    def test_a_ring_of_one_stand(self):
        web = web_of([1], [[0]], [])
        stand = stand_of(web, [0])
        self.assertTrue(is_same(ring(web, stand, 1), ([], [stand])))
        self.assertTrue(is_same(ring(web, stand, 3000), ([], [stand])))

    def test_a_ring_without_a_lead(self):
        web = web_of([3], [[0] * 3], [])
        stands = [stand_of(web, [phase]) for phase in range(3)]
        self.assertTrue(is_same(ring(web, stands[0], 3), ([], stands)))
        self.assertTrue(is_same(ring(web, stands[2], 3), ([], stands[2:] + stands[:2])))

    def test_a_ring_behind_a_lead(self):
        lead = [stand_of(JOINED, [phase, phase - 2]) for phase in (2, 3)]
        again = [stand_of(JOINED, [phase, phase]) for phase in range(4)]
        self.assertTrue(is_same(ring(JOINED, lead[0], 6), (lead, again)))
        self.assertTrue(is_same(ring(JOINED, lead[1], 6), (lead[1:], again)))
        self.assertTrue(is_same(ring(JOINED, again[1], 6), ([], again[1:] + again[:1])))

    def test_what_is_coming_is_of_a_stand_too(self):
        # The phases come again behind two ticks, but the first ones had nothing coming.
        web = web_of([2, 2], [[0, 0], [0, 0]], [(0, 1, 3)])
        stand = stand_of(web, [0, 0])
        lead = [((0, 0), (NONE,) * 4), ((1, 1), (NONE,) * 4), ((0, 0), (NONE, NONE, (0, 1), NONE))]
        again = [((1, 1), (NONE, (0, 1), NONE, NONE)), ((0, 0), ((0, 1), NONE, (0, 1), NONE))]
        self.assertTrue(is_same(ring(web, stand, 5), (lead, again)))
        self.refused("TooLong", ring, web, stand, 4)

    def test_just_three_thousand(self):
        web, stand = web_of_many_stands(8)
        lead, again = ring(web, stand, 3000)
        self.assertEqual((len(lead), len(again)), (8, 2992))
        self.assertTrue(is_ring(web, stand, (lead, again)))
        self.refused("TooLong", ring, web, stand, 2999)
        web, stand = web_of_many_stands(7)
        self.refused("TooLong", ring, web, stand, 3000)
        web = web_of([59, 60], [[0] * 59, [0] * 60], [])
        self.refused("TooLong", ring, web, stand_of(web, [0, 0]), 3000)


class Rings(GlowCase):
    def test_of_samples_tick_by_tick(self):
        seen = {}
        for web, phases in sample_webs(200, 20):
            stand = stand_of(web, phases)
            wanted = walked_ring(web, stand, 800)
            if wanted is None:
                self.refused("TooLong", ring, web, stand, 800)
                seen["long"] = True
                continue
            told = ring(web, stand, 3000)
            self.assertTrue(is_same(told, wanted), (web, stand))
            seen[("worms", len(phases))] = True
            seen[("lead", min(len(told[0]), 2))] = True
            seen[("ring", min(len(told[1]), 3))] = True
        rows = [("worms", count) for count in range(1, 9)] + [("lead", count) for count in range(3)]
        for row in rows + [("ring", count) for count in (1, 2, 3)] + ["long"]:
            self.assertIn(row, seen)

    def test_too_long_just_where_there_are_more(self):
        for web, stand, wanted in sample_rings(201, 8):
            count = len(wanted[0]) + len(wanted[1])
            for most in (count, count + 1, count + 7, 3000):
                self.assertTrue(is_same(ring(web, stand, most), wanted))
            for most in (1, 2, count // 2, count - 1):
                if 1 <= most < count:
                    self.refused("TooLong", ring, web, stand, most)

    def test_each_stand_once(self):
        for web, stand, both in sample_rings(202, 6):
            lead, again = ring(web, stand, 3000)
            self.assertEqual(len(set(lead + again)), len(lead + again))
            self.assertEqual((lead + again)[0], stand)
            self.assertEqual(tick(web, again[-1])[1], again[0])

    def test_from_a_later_stand(self):
        draws = Draws(203)
        for web, stand, both in sample_rings(204, 6):
            lead, again = both
            later = draws.below(len(lead + again))
            told = ring(web, stand_behind(web, stand, later), 3000)
            if later < len(lead):
                self.assertEqual(told, (lead[later:], again))
            else:
                turn = later - len(lead)
                self.assertEqual(told, ([], again[turn:] + again[:turn]))

    def test_what_is_told_is_the_askers_own(self):
        for web, stand, wanted in sample_rings(205, 3):
            told = ring(web, stand, 3000)
            told[0].append(stand)
            told[1].clear()
            self.assertEqual(ring(web, stand, 3000), wanted)
            told[0].clear()
            self.assertEqual(ring(web, stand, 3000), wanted)
            self.assertEqual(web_of(*web), web)

    def test_behind_a_refusal_too(self):
        stand = stand_of(JOINED, [2, 0])
        wanted = ring(JOINED, stand, 6)
        for done in range(3):
            self.refused("TooLong", ring, JOINED, stand, 5)
            self.assertEqual(ring(JOINED, stand, 6), wanted)


class LookedAt(GlowCase):
    def asked(self, web, stand, told, wanted):
        kept = (list(told[0]), list(told[1]))
        self.assertEqual(looked_at(web, stand, told), wanted)
        self.assertIs(is_ring(web, stand, told), wanted, (web, stand, told))
        self.assertEqual(told, kept)

    def test_told_ones_and_those_that_go_on(self):
        draws = Draws(206)
        for web, stand, both in sample_rings(207, 6, 150):
            lead, again = both
            turn = draws.below(len(again))
            turned = again[turn:] + again[:turn]
            self.asked(web, stand, ring(web, stand, 3000), True)
            self.asked(web, stand, (lead, again + again), True)
            self.asked(web, stand, (lead, again + again + again), True)
            self.asked(web, stand, (lead + again[:turn], turned), True)
            self.asked(web, stand, (lead + again, again), True)
            self.asked(web, stand, (lead + again + again[:turn], turned + turned), True)

    def test_none_at_all(self):
        for web, stand, both in sample_rings(208, 2):
            lead, again = both
            self.asked(web, stand, ([], []), False)
            self.asked(web, stand, (lead, []), False)
            self.asked(web, stand, (lead + again, []), False)
            self.asked(web, stand, ([stand], []), False)

    def test_a_stand_left_out(self):
        draws = Draws(209)
        for web, stand, (lead, again) in sample_rings(210, 6, 150):
            for done in range(4):
                if lead:
                    place = draws.below(len(lead))
                    self.asked(web, stand, (lead[:place] + lead[place + 1:], again), False)
                place = draws.below(len(again))
                self.asked(web, stand, (lead, again[:place] + again[place + 1:]), False)

    def test_a_stand_twice(self):
        draws = Draws(211)
        seen = {}
        for web, stand, (lead, again) in sample_rings(212, 6, 150):
            if lead:
                place = draws.below(len(lead))
                self.asked(web, stand, (lead[:place + 1] + lead[place:], again), False)
            place = draws.below(len(again))
            # A ring of one stand leads to itself, so that this one may well stand twice.
            alone = len(again) == 1
            self.asked(web, stand, (lead, again[:place + 1] + again[place:]), alone)
            seen[alone] = True
        self.assertEqual(sorted(seen), [False, True])

    def test_a_stand_exchanged_with_another_one(self):
        draws = Draws(213)
        for web, stand, (lead, again) in sample_rings(214, 6, 150):
            stands = lead + again
            if len(stands) == 1:
                continue
            for done in range(4):
                one, other = draws.shuffled(range(len(stands)))[:2]
                others = list(stands)
                others[one], others[other] = stands[other], stands[one]
                self.asked(web, stand, (others[:len(lead)], others[len(lead):]), False)

    def test_not_closed(self):
        for web, stand, (lead, again) in sample_rings(215, 6, 150):
            stands = lead + again
            for place in range(min(len(lead), 5)):
                self.asked(web, stand, (stands[:place], stands[place:]), False)
            for place in range(len(lead) + 1, min(len(stands), len(lead) + 5)):
                self.asked(web, stand, (stands[:place], stands[place:]), False)

    def test_another_stand_asked(self):
        for web, stand, (lead, again) in sample_rings(216, 6, 150):
            for other in (lead + again)[1:]:
                self.asked(web, other, (lead, again), False)
            if not lead:
                self.asked(web, again[-1], ([], again), len(again) == 1)

    def test_another_web_asked(self):
        web = web_of([3, 3], [[1] * 3, [0] * 3], [(1, 0, 0)])
        stand = stand_of(APART, [0, 2])
        told = ring(APART, stand, 3)
        self.asked(APART, stand, told, True)
        self.asked(web, stand, told, False)

    def test_pushes_that_come_are_looked_at(self):
        web = web_of([2, 2], [[0, 0], [0, 0]], [(0, 1, 1)])
        stand = stand_of(web, [0, 0])
        wanted = ring(web, stand, 9)
        self.asked(web, stand, wanted, True)
        # The same phases with nothing coming aren't come to again.
        self.asked(web, stand, ([], [stand, stand_of(web, [1, 1])]), False)

    def test_three_thousand_stands(self):
        web, stand = web_of_many_stands(8)
        lead, again = ring(web, stand, 3000)
        self.assertIs(is_ring(web, stand, (lead, again[:-1])), False)
        self.assertIs(is_ring(web, stand, (lead, again[:-1] + again[:1])), False)
        self.assertIs(is_ring(web, stand, (lead[1:], again)), False)


class OneFlock(GlowCase):
    def test_by_hand(self):
        for phases in ([0, 0], [2, 0], [0, 1], [3, 2]):
            self.assertIs(is_one(JOINED, ring(JOINED, stand_of(JOINED, phases), 99)), True)
        for phases, wanted in (([0, 0], True), ([1, 1], True), ([0, 1], False), ([2, 0], False)):
            self.assertIs(is_one(APART, ring(APART, stand_of(APART, phases), 99)), wanted)

    def test_one_worm_alone(self):
        for count in (1, 2, 60):
            web = web_of([count], [[0] * count], [])
            self.assertIs(is_one(web, ring(web, stand_of(web, [count - 1]), 60)), True)

    def test_all_worms_in_several_waves(self):
        # The second worm is behind, and pushed over the end at each glow of the first one.
        web = web_of([3, 5], [[0] * 3, [9] * 5], [(0, 1, 0)])
        told = ring(web, stand_of(web, [0, 0]), 99)
        self.assertEqual(tick(web, told[1][-1])[0], ((0,), (1,)))
        self.assertIs(is_one(web, told), True)

    def test_some_ticks_with_all_and_some_with_few(self):
        web = web_of([2, 4], [[0] * 2, [0] * 4], [])
        told = ring(web, stand_of(web, [0, 0]), 99)
        self.assertEqual([tick(web, stand)[0] for stand in told[1]], [(), ((0,),), (), ((0, 1),)])
        self.assertIs(is_one(web, told), False)

    def test_the_lead_is_not_asked(self):
        lead, again = ring(JOINED, stand_of(JOINED, [2, 0]), 99)
        # Ahead of the ring one worm glows by itself, as it is not tied.
        web = web_of([4, 4], [[0] * 4, [4] * 4], [(0, 1, 4)])
        told = ring(web, stand_of(web, [3, 0]), 99)
        self.assertEqual(tick(web, told[0][0])[0], ((0,),))
        self.assertIs(is_one(web, told), True)
        self.assertIs(is_one(JOINED, ([stand_of(JOINED, [0, 0])] * 3, again)), True)

    def test_without_any_wave(self):
        self.assertIs(is_one(JOINED, ([], [stand_of(JOINED, [0, 0])])), False)
        self.assertIs(is_one(APART, ([], [stand_of(APART, [0, 0]), stand_of(APART, [1, 1])])), False)

    def test_of_samples(self):
        seen = {}
        for web, stand, both in sample_rings(217, 12):
            glows = [tick_push_by_push(web, other)[0] for other in both[1]]
            glows = [sorted(worm for wave in waves for worm in wave) for waves in glows if waves]
            wanted = bool(glows) and all(worms == list(range(len(web[0]))) for worms in glows)
            self.assertIs(is_one(web, both), wanted)
            self.assertIs(is_one(web, (both[0], both[1] * 2)), wanted)
            seen[(wanted, len(web[0]) > 1)] = True
        self.assertEqual(sorted(seen), [(False, True), (True, False), (True, True)])

    def test_what_is_handed_in_stays(self):
        for web, stand, both in sample_rings(218, 2):
            kept = (list(both[0]), list(both[1]))
            first = is_one(web, both)
            self.assertIs(is_one(web, both), first)
            self.assertEqual(both, kept)


if __name__ == "__main__":
    unittest.main()
