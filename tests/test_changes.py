"""Points 31 and 32, and points 2 and 3 as far as they speak of exchanges and of swarms told as webs."""

import itertools
import unittest
from fractions import Fraction

from glowflock.changes import as_web, exchanged, exchanged_stand, exchanged_web
from glowflock.errors import TooLong
from glowflock.histories import behind, history
from glowflock.papers import fate, lets_by, paper_of
from glowflock.rings import is_one, is_ring, ring
from glowflock.rounds import laid
from glowflock.swarms import flocks, glow, moved, swarm_of
from glowflock.ticks import run, stand_behind, tick
from glowflock.webs import stand_of, web_of
from helper import (
    EVEN, FALLING, KINDS, RISING, RULES, Draws, GlowCase, as_fraction, as_number, glow_push_by_push, is_same,
    sample_swarms, sample_webs, tick_push_by_push,
)

QUARTER = ((1, 1), (1, 4))
SWARM = swarm_of(QUARTER, [(0, 1), (1, 3), (1, 2)])
# So near its still place that its rounds are free for too long.
SLOW = swarm_of(((9, 8), (1, 10)), [(34, 59), (0, 1)])
WEB = web_of([2, 3, 4], [[1, 2], [3, 4, 5], [6, 7, 8, 9]], [(0, 1, 0), (0, 2, 4), (2, 1, 1)])
STAND = ((1, 2, 3), ((1, 0, 0), (0, 2, 0), (0, 0, 3), (4, 5, 6)))


def turned_about(order):
    return [order.index(worm) for worm in range(len(order))]


def set_anew(order, things):
    """What was at i is at order[i]."""
    where = dict(zip(order, things))
    return tuple(where[worm] for worm in range(len(order)))


def waves_anew(order, waves):
    return tuple(tuple(sorted(order[worm] for worm in wave)) for wave in waves)


def no_orders(worms):
    """Things that are no order of so many worms, one for each way not to be one, and more."""
    right = list(range(worms))
    told = [
        right[:-1], right + [worms], right + [0], [], right[:-1] + [worms], [-1] + right[1:], [0] * (worms + 1),
        tuple(right), tuple(reversed(right)), right[:-1] + [True], [False] + right[1:], right[:-1] + [float(worms - 1)],
        right[:-1] + [str(worms - 1)], right[:-1] + [None], right[:-1] + [(worms - 1,)], [right], (right,), [[]],
        range(worms), dict.fromkeys(right), set(right), iter(right), "".join(str(worm) for worm in right), "0",
        [Fraction(worm) for worm in right], right[:-1] + [(worms - 1, 1)], right[:-1] + [10 ** 60], [right[0]] * 100,
        [float("nan")] * worms, right[:-1] + [right], right[:-1] + [{}], bytes(right), None, True, 0, worms, 0.5,
    ]
    if worms > 1:
        told.extend([[1, 1] + right[2:], [0, 0] + right[2:], [right[-1]] * worms, [0] * worms])
    return told + [thing for thing in KINDS if not is_same(thing, [0]) and not is_same(thing, [0, 1])]


class Orders(GlowCase):
    def test_by_hand(self):
        self.assertTrue(is_same(exchanged(SWARM, [2, 0, 1]), (QUARTER, ((1, 3), (1, 2), (0, 1)))))
        self.assertTrue(is_same(exchanged(SWARM, [0, 1, 2]), SWARM))
        wanted = ((3, 4, 2), ((3, 4, 5), (6, 7, 8, 9), (1, 2)), ((1, 0, 1), (2, 0, 0), (2, 1, 4)))
        self.assertTrue(is_same(exchanged_web(WEB, [2, 0, 1]), wanted))
        self.assertTrue(is_same(exchanged_web(WEB, [0, 1, 2]), WEB))
        wanted = ((2, 3, 1), ((0, 0, 1), (2, 0, 0), (0, 3, 0), (5, 6, 4)))
        self.assertTrue(is_same(exchanged_stand(STAND, [2, 0, 1]), wanted))
        self.assertTrue(is_same(exchanged_stand(STAND, [0, 1, 2]), STAND))

    def test_all_orders_of_few_worms(self):
        for worms in range(1, 5):
            phases = tuple(as_number(Fraction(worm, worms)) for worm in range(worms))
            rounds = tuple(range(1, worms + 1))
            web = web_of(rounds, [[worm] * worm for worm in rounds], [(0, worm, worm) for worm in range(1, worms)])
            stand = (tuple(range(worms)), tuple(tuple(row * 10 + worm for worm in range(worms)) for row in range(4)))
            for order in itertools.permutations(range(worms)):
                order = list(order)
                self.assertTrue(is_same(exchanged((QUARTER, phases), order), (QUARTER, set_anew(order, phases))))
                ties = tuple(sorted((order[0], order[tie[1]], tie[2]) for tie in web[2]))
                wanted = (set_anew(order, web[0]), set_anew(order, web[1]), ties)
                self.assertTrue(is_same(exchanged_web(web, order), wanted))
                wanted = (set_anew(order, stand[0]), tuple(set_anew(order, row) for row in stand[1]))
                self.assertTrue(is_same(exchanged_stand(stand, order), wanted))

    def test_the_order_turned_about_brings_back_the_first_one(self):
        draws = Draws(300)
        for swarm in sample_swarms(301, RULES, 1):
            order = draws.shuffled(range(len(swarm[1])))
            told = exchanged(swarm, order)
            self.assertEqual([told[1][order[worm]] for worm in range(len(order))], list(swarm[1]))
            self.assertTrue(is_same(exchanged(told, turned_about(order)), swarm))
        for web, phases in sample_webs(302, 6):
            order = draws.shuffled(range(len(phases)))
            self.assertTrue(is_same(exchanged_web(exchanged_web(web, order), turned_about(order)), web))
            stand = stand_behind(web, stand_of(web, phases), draws.below(50))
            self.assertTrue(is_same(exchanged_stand(exchanged_stand(stand, order), turned_about(order)), stand))

    def test_one_order_and_then_another(self):
        draws = Draws(303)
        for swarm in sample_swarms(304, EVEN, 1):
            one = draws.shuffled(range(len(swarm[1])))
            other = draws.shuffled(one)
            both = [other[worm] for worm in one]
            self.assertEqual(exchanged(exchanged(swarm, one), other), exchanged(swarm, both))

    def test_exchanged_webs_are_webs_and_their_ties_sorted(self):
        draws = Draws(305)
        unsorted = 0
        for web, phases in sample_webs(306, 6):
            order = draws.shuffled(range(len(phases)))
            told = exchanged_web(web, order)
            self.assertTrue(is_same(web_of(*told), told))
            moved_ties = [(order[tie[0]], order[tie[1]], tie[2]) for tie in web[2]]
            self.assertEqual(list(told[2]), sorted(moved_ties))
            unsorted += moved_ties != sorted(moved_ties)
            stand = exchanged_stand(stand_of(web, phases), order)
            self.assertTrue(is_same(stand, stand_of(told, stand[0])))
        self.assertGreater(unsorted, 9)

    def test_what_is_no_order(self):
        for worms in range(1, 9):
            swarm = swarm_of(QUARTER, [(0, 1)] * worms)
            web = web_of([2] * worms, [[0, 0]] * worms, [])
            stand = stand_of(web, [1] * worms)
            for thing in no_orders(worms):
                if is_same(thing, list(range(worms))):
                    continue
                self.refused("NoSwarm", exchanged, swarm, thing)
                self.refused("NoWeb", exchanged_web, web, thing)
                self.refused("NoStand", exchanged_stand, stand, thing)

    def test_orders_of_other_counts(self):
        for worms in range(1, 9):
            for other in range(0, 10):
                if other != worms:
                    order = list(range(other))
                    self.refused("NoSwarm", exchanged, (QUARTER, ((1, 2),) * worms), order)
                    web = web_of([1] * worms, [[0]] * worms, [])
                    self.refused("NoWeb", exchanged_web, web, order)
                    self.refused("NoStand", exchanged_stand, stand_of(web, [0] * worms), order)

    def test_what_is_handed_in_stays_and_is_not_kept(self):
        order = [2, 0, 1]
        told = (exchanged(SWARM, order), exchanged_web(WEB, order), exchanged_stand(STAND, order))
        self.assertEqual(order, [2, 0, 1])
        order.reverse()
        again = [2, 0, 1]
        self.assertEqual(told, (exchanged(SWARM, again), exchanged_web(WEB, again), exchanged_stand(STAND, again)))
        for name, call, thing in (("NoSwarm", exchanged, SWARM), ("NoWeb", exchanged_web, WEB)):
            order = [2, 0, 2]
            self.refused(name, call, thing, order)
            self.assertEqual(order, [2, 0, 2])


class AllIsExchanged(GlowCase):
    def test_glows_flocks_histories(self):
        draws = Draws(310)
        for swarm in sample_swarms(311, RULES, 1):
            order = draws.shuffled(range(len(swarm[1])))
            other = exchanged(swarm, order)
            wanted = [(phase, waves_anew(order, [worms])[0]) for phase, worms in flocks(swarm)]
            self.assertEqual(flocks(other), wanted)
            wait, waves, anew = glow(swarm)
            self.assertEqual(glow(other), (wait, waves_anew(order, waves), exchanged(anew, order)))
            rows = [(hour, waves_anew(order, waves), set_anew(order, at)) for hour, waves, at in history(swarm, 20)]
            self.assertEqual(history(other, 20), rows)
            hour, later = behind(swarm, 13)
            self.assertEqual(behind(other, 13), (hour, exchanged(later, order)))
            self.assertEqual(laid(behind(other, 1)[1]), laid(behind(swarm, 1)[1]))

    def test_fates_and_papers(self):
        draws = Draws(312)
        words = {}
        for swarm in sample_swarms(313, RULES, 2) + [SLOW]:
            order = draws.shuffled(range(len(swarm[1])))
            other = exchanged(swarm, order)
            try:
                paper = paper_of(swarm)
            except TooLong:
                self.refused("TooLong", paper_of, other)
                self.refused("TooLong", fate, other)
                words["long"] = True
                continue
            wanted = [(row[0], set_anew(order, row[1])) + row[2:] for row in paper]
            self.assertEqual(paper_of(other), wanted)
            self.assertIs(lets_by(other, wanted), True)
            self.assertEqual(fate(other), fate(swarm))
            words[paper[-1][2]] = True
        self.assertEqual(sorted(words), ["drawn", "long", "one", "rests"])

    def test_ticks_and_runs(self):
        draws = Draws(314)
        for web, phases in sample_webs(315, 6):
            order = draws.shuffled(range(len(phases)))
            other = exchanged_web(web, order)
            stand = stand_behind(web, stand_of(web, phases), draws.below(9))
            at = exchanged_stand(stand, order)
            waves, later = tick(web, stand)
            self.assertEqual(tick(other, at), (waves_anew(order, waves), exchanged_stand(later, order)))
            rows = [(count, waves_anew(order, waves)) for count, waves in run(web, stand, 120)]
            self.assertEqual(run(other, at, 120), rows)
            wanted = exchanged_stand(stand_behind(web, stand, 120), order)
            self.assertEqual(stand_behind(other, at, 120), wanted)

    def test_rings(self):
        draws = Draws(316)
        for web, phases in sample_webs(317, 4):
            order = draws.shuffled(range(len(phases)))
            other = exchanged_web(web, order)
            stand = stand_of(web, phases)
            at = exchanged_stand(stand, order)
            try:
                told = ring(web, stand, 500)
            except TooLong:
                self.refused("TooLong", ring, other, at, 500)
                continue
            wanted = tuple([exchanged_stand(one, order) for one in part] for part in told)
            self.assertEqual(ring(other, at, 500), wanted)
            self.assertIs(is_ring(other, at, wanted), True)
            self.assertIs(is_one(other, wanted), is_one(web, told))


def count_from_one_on(swarm):
    """The least count, found by counting; None beyond 60."""
    parts = [as_fraction(swarm[0][1])] + [as_fraction(phase) for phase in swarm[1]]
    for count in range(1, 61):
        if all((count * part).denominator == 1 for part in parts):
            return count
    return None


def web_by_counting(swarm):
    count = count_from_one_on(swarm)
    worms = len(swarm[1])
    up = int(count * as_fraction(swarm[0][1]))
    ties = tuple((one, other, 0) for one in range(worms) for other in range(worms) if one != other)
    phases = tuple(int(count * as_fraction(phase)) for phase in swarm[1])
    return ((count,) * worms, ((up,) * count,) * worms, ties), (phases, ((0,) * worms,) * 4)


class AsWebs(GlowCase):
    def test_by_hand(self):
        web = ((12, 12), ((3,) * 12,) * 2, ((0, 1, 0), (1, 0, 0)))
        self.assertTrue(is_same(as_web((QUARTER, ((1, 3), (1, 2)))), (web, ((4, 6), ((0, 0),) * 4))))
        web = ((1,), ((0,),), ())
        self.assertTrue(is_same(as_web((((1, 1), (0, 1)), ((0, 1),))), (web, ((0,), ((0,),) * 4))))
        web = ((1,), ((1,),), ())
        self.assertTrue(is_same(as_web((((1, 1), (1, 1)), ((0, 1),))), (web, ((0,), ((0,),) * 4))))
        told = as_web((((1, 1), (1, 12)), ((1, 5),) * 8))
        self.assertEqual((told[0][0], told[0][1], told[1][0]), ((60,) * 8, ((5,) * 60,) * 8, (12,) * 8))
        self.assertEqual(len(told[0][2]), 56)
        told = as_web((((1, 1), (1, 1)), ((59, 60),)))
        self.assertEqual(told, (((60,), ((60,) * 60,), ()), ((59,), ((0,),) * 4)))

    def test_just_sixty_and_more(self):
        self.assertEqual(as_web((((1, 1), (1, 12)), ((1, 5), (0, 1))))[0][0], (60, 60))
        self.refused("NoWeb", as_web, (((1, 1), (1, 12)), ((1, 7), (0, 1))))
        self.refused("NoWeb", as_web, (((1, 1), (0, 1)), ((1, 7), (1, 9))))
        self.assertEqual(as_web((((1, 1), (0, 1)), ((1, 59), (0, 1))))[0][0], (59, 59))
        self.refused("NoWeb", as_web, moved((((1, 1), (0, 1)), ((0, 1), (0, 1))), (1, 61)))
        self.assertEqual(as_web(moved((((1, 1), (0, 1)), ((0, 1), (0, 1))), (1, 60)))[0][0], (60, 60))

    def test_numbers_of_many_figures(self):
        # However many ticks there would be, none of them is laid out.
        swarm = moved((((1, 1), (1, 12)), ((0, 1), (1, 2))), (1, 10 ** 59))
        self.refused("NoWeb", as_web, swarm)
        self.refused("NoWeb", as_web, behind((RISING[0], ((1, 7), (3, 11), (5, 13))), 30)[1])
        self.refused("NoWeb", as_web, (((1, 1), (0, 1)), behind((FALLING[2], ((1, 7), (3, 11), (5, 13))), 30)[1][1]))

    def test_rules_that_are_not_even(self):
        for rule in RISING + FALLING:
            for phases in (((0, 1),), ((1, 2), (0, 1)), ((1, 3),) * 8):
                self.refused("NoWeb", as_web, (rule, phases))

    def test_the_least_count_found_by_counting(self):
        seen = {}
        draws = Draws(320)
        for swarm in sample_swarms(321, EVEN, 12):
            if draws.below(2):
                bottom = draws.one_of((1, 2, 4, 5, 6, 10, 12, 15, 20, 30, 60))
                phases = tuple(as_number(Fraction(draws.below(bottom), bottom)) for phase in swarm[1])
                swarm = (swarm[0], phases)
            if count_from_one_on(swarm) is None:
                self.refused("NoWeb", as_web, swarm)
                seen[None] = True
                continue
            web, stand = as_web(swarm)
            self.assertTrue(is_same((web, stand), web_by_counting(swarm)), swarm)
            self.assertTrue(is_same(web_of(*web), web))
            self.assertTrue(is_same(stand_of(web, stand[0]), stand))
            seen[web[0][0]] = True
        for count in (None, 1, 12, 60):
            self.assertIn(count, seen)

    def test_glows_are_the_ticks_with_a_wave(self):
        draws = Draws(322)
        joined = 0
        for done in range(60):
            rule = draws.one_of(EVEN[:2] + EVEN[3:])
            phases = tuple(as_number(Fraction(draws.below(12), 12)) for worm in range(1 + done % 8))
            swarm = (rule, phases)
            web, stand = as_web(swarm)
            count = web[0][0]
            rows = history(swarm, 40)
            ticks = [as_fraction(hour) * count for hour, waves, at in rows]
            wanted = [(int(tick_at), row[1]) for tick_at, row in zip(ticks, rows)]
            self.assertTrue(all(tick_at.denominator == 1 for tick_at in ticks))
            self.assertEqual(run(web, stand, int(ticks[-1])), wanted)
            for tick_at, row in zip(ticks[:12], rows):
                at = stand_behind(web, stand, int(tick_at))[0]
                self.assertEqual([Fraction(phase, count) for phase in at], [as_fraction(phase) for phase in row[2]])
            joined += any(len(waves) > 1 for hour, waves, at in rows)
        self.assertGreater(joined, 20)

    def test_push_by_push_and_tick_by_tick(self):
        draws = Draws(323)
        for done in range(20):
            phases = tuple(as_number(Fraction(draws.below(20), 20)) for worm in range(1 + draws.below(8)))
            swarm = (QUARTER, phases)
            web, stand = as_web(swarm)
            for glows in range(10):
                wait, waves, swarm = glow_push_by_push(swarm)
                for before in range(int(as_fraction(wait) * web[0][0]) - 1):
                    told, stand = tick_push_by_push(web, stand)
                    self.assertEqual(told, ())
                told, stand = tick_push_by_push(web, stand)
                self.assertEqual(told, waves)

    def test_fates_and_rings_say_the_same(self):
        draws = Draws(324)
        seen = {}
        for done in range(60):
            rule = draws.one_of(EVEN[:2] + EVEN[3:])
            phases = tuple(as_number(Fraction(draws.below(12), 12)) for worm in range(1 + done % 8))
            web, stand = as_web((rule, phases))
            word = fate((rule, phases))[0]
            self.assertEqual(is_one(web, ring(web, stand, 3000)), word == "one")
            seen[word] = True
        self.assertEqual(sorted(seen), ["one", "rests"])

    def test_exchanged_ahead_and_behind(self):
        draws = Draws(325)
        for done in range(20):
            phases = tuple(as_number(Fraction(draws.below(12), 12)) for worm in range(1 + draws.below(8)))
            order = draws.shuffled(range(len(phases)))
            web, stand = as_web((QUARTER, phases))
            told = as_web(exchanged((QUARTER, phases), order))
            self.assertEqual(told, (exchanged_web(web, order), exchanged_stand(stand, order)))


if __name__ == "__main__":
    unittest.main()
