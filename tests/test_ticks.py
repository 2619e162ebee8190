"""Points 26 and 27, and points 2 and 3 as far as they speak of ticks."""

import unittest
from fractions import Fraction

from glowflock.histories import history
from glowflock.ticks import run, stand_behind, tick
from glowflock.webs import stand_of, web_of
from helper import Draws, GlowCase, as_fraction, is_same, sample_webs, tick_push_by_push

NONE = (0, 0)
PAIR = web_of([4, 4], [[1] * 4, [1] * 4], [(0, 1, 2)])


def web_with(delay, ups=(2, 2, 2, 2, 2, 2)):
    """The first worm pushes the second one so many ticks later."""
    return web_of([3, 6], [[0] * 3, list(ups)], [(0, 1, delay)])


def run_push_by_push(web, stand, many):
    rows = []
    for count in range(1, many + 1):
        waves, stand = tick_push_by_push(web, stand)
        if waves:
            rows.append((count, waves))
    return rows, stand


class ByHand(GlowCase):
    def does(self, web, stand, waves, phases, coming):
        told = tick(web, stand)
        self.assertTrue(is_same(told, (waves, (phases, coming))), told)
        self.assertEqual(tick_push_by_push(web, stand), told)
        return told[1]

    def test_no_wave(self):
        web = web_with(0)
        self.does(web, stand_of(web, [0, 0]), (), (1, 1), (NONE,) * 4)

    def test_a_wave_of_one_that_pushes_at_once(self):
        web = web_with(0)
        self.does(web, stand_of(web, [2, 0]), ((0,),), (0, 3), (NONE,) * 4)
        self.does(web, stand_of(web, [2, 2]), ((0,),), (0, 5), (NONE,) * 4)

    def test_pushed_over_the_end(self):
        web = web_with(0)
        self.does(web, stand_of(web, [2, 3]), ((0,), (1,)), (0, 0), (NONE,) * 4)
        self.does(web, stand_of(web, [2, 4]), ((0,), (1,)), (0, 0), (NONE,) * 4)

    def test_one_wave_of_two(self):
        web = web_with(0)
        self.does(web, stand_of(web, [2, 5]), ((0, 1),), (0, 0), (NONE,) * 4)

    def test_sent_for_later(self):
        for delay in range(1, 5):
            web = web_with(delay)
            coming = tuple((0, int(turn == delay)) for turn in range(1, 5))
            stand = self.does(web, stand_of(web, [2, 0]), ((0,),), (0, 1), coming)
            for count in range(1, delay):
                waves, stand = tick(web, stand)
                self.assertEqual(stand[0][1], 1 + count)
            waves, stand = tick(web, stand)
            # The worm comes to 1 and delay by itself, and is then pushed two up, which is over the end from 6 on.
            self.assertEqual(any(1 in wave for wave in waves), delay >= 3)
            self.assertEqual(stand[0][1], 3 + delay if delay < 3 else 0)

    def test_a_push_that_comes_ends_a_worm_in_the_first_wave(self):
        web = web_with(1)
        stand = self.does(web, stand_of(web, [2, 2]), ((0,),), (0, 3), ((0, 1), NONE, NONE, NONE))
        self.does(web, stand, ((1,),), (1, 0), (NONE,) * 4)

    def test_a_push_that_comes_to_a_worm_that_has_ended_is_lost(self):
        web = web_with(1)
        stand = self.does(web, stand_of(web, [2, 4]), ((0,),), (0, 5), ((0, 1), NONE, NONE, NONE))
        self.does(web, stand, ((1,),), (1, 0), (NONE,) * 4)

    def test_several_pushes_come_until_the_end(self):
        web = web_of([9, 9, 9, 5], [[0] * 9] * 3 + [[0, 1, 2, 0, 60]], [(0, 3, 1), (1, 3, 1), (2, 3, 1)])
        none = (0, 0, 0, 0)
        stand = self.does(web, stand_of(web, [8, 8, 8, 0]), ((0, 1, 2),), (0, 0, 0, 1), ((0, 0, 0, 3), none, none, none))
        # From 2 to 4, then over the end, and the third one is lost.
        self.does(web, stand, ((3,),), (1, 1, 1, 0), (none,) * 4)
        web = web_of([9, 9, 9, 5], [[0] * 9] * 3 + [[0, 1, 1, 0, 60]], [(0, 3, 1), (1, 3, 1), (2, 3, 1)])
        stand = tick(web, stand_of(web, [8, 8, 8, 0]))[1]
        self.does(web, stand, (), (1, 1, 1, 3), (none,) * 4)

    def test_ups_are_those_of_the_phase_behind_the_rise(self):
        web = web_with(0, (5, 0, 1, 3, 0, 0))
        self.does(web, stand_of(web, [2, 0]), ((0,),), (0, 1), (NONE,) * 4)
        self.does(web, stand_of(web, [2, 1]), ((0,),), (0, 3), (NONE,) * 4)
        self.does(web, stand_of(web, [2, 2]), ((0,), (1,)), (0, 0), (NONE,) * 4)
        self.does(web, stand_of(web, [2, 3]), ((0,),), (0, 4), (NONE,) * 4)

    def test_waves_one_behind_the_other(self):
        ties = [(0, 1, 0), (1, 2, 0), (2, 3, 0), (3, 0, 0), (3, 1, 0)]
        web = web_of([2, 9, 9, 9], [[9] * 2] + [[9] * 9] * 3, ties)
        none = ((0,) * 4,) * 4
        self.does(web, stand_of(web, [1, 0, 0, 0]), ((0,), (1,), (2,), (3,)), (0, 0, 0, 0), none)

    def test_pushed_by_each_worm_of_a_wave(self):
        web = web_of([2, 2, 9], [[0] * 2] * 2 + [[3] * 9], [(0, 2, 0), (1, 2, 0)])
        none = ((0,) * 3,) * 4
        self.does(web, stand_of(web, [1, 1, 0]), ((0, 1),), (0, 0, 7), none)
        self.does(web, stand_of(web, [1, 0, 0]), ((0,),), (0, 1, 4), none)
        self.does(web, stand_of(web, [1, 1, 2]), ((0, 1), (2,)), (0, 0, 0), none)

    def test_pushed_in_two_waves(self):
        web = web_of([2, 9, 9], [[0] * 2, [9] * 9, [3] * 9], [(0, 1, 0), (0, 2, 0), (1, 2, 0)])
        none = ((0,) * 3,) * 4
        self.does(web, stand_of(web, [1, 0, 0]), ((0,), (1,)), (0, 0, 7), none)
        self.does(web, stand_of(web, [1, 0, 2]), ((0,), (1,), (2,)), (0, 0, 0), none)

    def test_each_worm_of_all_waves_sends(self):
        web = web_of([2, 9, 9], [[0] * 2, [9] * 9, [0] * 9], [(0, 1, 0), (0, 2, 1), (1, 2, 1), (1, 2, 4), (1, 0, 2)])
        coming = ((0, 0, 2), (1, 0, 0), (0, 0, 0), (0, 0, 1))
        self.does(web, stand_of(web, [1, 0, 0]), ((0,), (1,)), (0, 0, 1), coming)

    def test_what_was_coming_moves_up_and_is_added_to(self):
        web = web_of([1, 9], [[0], [0] * 9], [(0, 1, 2), (0, 1, 4)])
        stand = stand_of(web, [0, 0])
        for coming in (
            ((0, 0), (0, 1), (0, 0), (0, 1)), ((0, 1), (0, 1), (0, 1), (0, 1)), ((0, 1), (0, 2), (0, 1), (0, 1)),
            ((0, 2), (0, 2), (0, 1), (0, 1)), ((0, 2), (0, 2), (0, 1), (0, 1)),
        ):
            stand = self.does(web, stand, ((0,),), (0, stand[0][1] + 1), coming)

    def test_a_round_of_one_tick(self):
        web = web_of([1], [[60]], [])
        self.does(web, stand_of(web, [0]), ((0,),), (0,), ((0,),) * 4)

    def test_ups_of_nought_move_nothing(self):
        web = web_of([2, 3], [[0, 0], [0, 0, 0]], [(0, 1, 0), (1, 0, 0)])
        self.does(web, stand_of(web, [1, 1]), ((0,),), (0, 2), (NONE,) * 4)


class Ticks(GlowCase):
    def test_of_samples_push_by_push(self):
        seen = {}
        for web, phases in sample_webs(110, 12):
            stand = stand_of(web, phases)
            for done in range(60):
                told = tick(web, stand)
                self.assertTrue(is_same(told, tick_push_by_push(web, stand)), (web, stand))
                seen[("waves", min(len(told[0]), 3))] = True
                for wave in told[0]:
                    seen[("worms", min(len(wave), 3))] = True
                if any(told[1][1][3]):
                    seen["delay of 4"] = True
                if any(many > 1 for many in stand[1][0]):
                    seen["two come"] = True
                stand = told[1]
        for row in [("waves", count) for count in range(4)] + [("worms", count) for count in (1, 2, 3)]:
            self.assertIn(row, seen)
        self.assertIn("delay of 4", seen)
        self.assertIn("two come", seen)

    def test_each_delay_alone(self):
        draws = Draws(111)
        for web, phases in sample_webs(112, 3):
            for delay in range(5):
                ties = sorted({(tie[0], tie[1], delay) for tie in web[2]})
                alone = web_of(web[0], web[1], draws.shuffled(ties))
                stand = stand_of(alone, phases)
                for done in range(30):
                    told = tick(alone, stand)
                    self.assertTrue(is_same(told, tick_push_by_push(alone, stand)))
                    stand = told[1]

    def test_what_is_handed_in_stays(self):
        for web, phases in sample_webs(113, 2):
            stand = stand_behind(web, stand_of(web, phases), 7)
            told = [tick(web, stand) for done in range(3)]
            self.assertEqual(told, told[:1] * 3)
            self.assertEqual(web_of(*web), web)
            self.assertEqual(stand, stand_behind(web, stand_of(web, phases), 7))

    def test_worms_exchanged_exchange_all(self):
        draws = Draws(114)
        for web, phases in sample_webs(115, 3):
            order = draws.shuffled(range(len(phases)))
            ahead = [order.index(worm) for worm in range(len(phases))]
            other = web_of(
                [web[0][worm] for worm in ahead], [web[1][worm] for worm in ahead],
                [(order[tie[0]], order[tie[1]], tie[2]) for tie in web[2]],
            )
            one = run(web, stand_of(web, phases), 50)
            told = run(other, stand_of(other, [phases[worm] for worm in ahead]), 50)
            wanted = [
                (count, tuple(tuple(sorted(order[worm] for worm in wave)) for wave in waves)) for count, waves in one
            ]
            self.assertEqual(told, wanted)


class Runs(GlowCase):
    def test_by_hand(self):
        # At the tick 2 the first worm glows, and its push comes at the tick 4, as the second one ends by itself.
        stand = stand_of(PAIR, [2, 0])
        self.assertTrue(is_same(run(PAIR, stand, 4), [(2, ((0,),)), (4, ((1,),))]))
        self.assertEqual(run(PAIR, stand, 8), [(2, ((0,),)), (4, ((1,),)), (6, ((0,),)), (8, ((1,),))])
        self.assertEqual(stand_behind(PAIR, stand, 3), ((1, 3), ((0, 1), NONE, NONE, NONE)))

    def test_of_no_tick(self):
        for web, phases in sample_webs(116, 2):
            stand = stand_of(web, phases)
            self.assertTrue(is_same(run(web, stand, 0), []))
            self.assertTrue(is_same(stand_behind(web, stand, 0), stand))

    def test_of_one_tick(self):
        seen = {}
        for web, phases in sample_webs(117, 8):
            stand = stand_behind(web, stand_of(web, phases), 3)
            waves, anew = tick(web, stand)
            self.assertTrue(is_same(run(web, stand, 1), [(1, waves)] if waves else []))
            self.assertTrue(is_same(stand_behind(web, stand, 1), anew))
            seen[waves == ()] = True
        self.assertEqual(sorted(seen), [False, True])

    def test_of_samples_push_by_push(self):
        for web, phases in sample_webs(118, 4):
            stand = stand_of(web, phases)
            for many in (2, 17, 100):
                rows, at = run_push_by_push(web, stand, many)
                self.assertTrue(is_same(run(web, stand, many), rows))
                self.assertTrue(is_same(stand_behind(web, stand, many), at))

    def test_of_2000_ticks(self):
        for web, phases in sample_webs(119, 1):
            stand = stand_of(web, phases)
            rows, at = run_push_by_push(web, stand, 2000)
            self.assertEqual(run(web, stand, 2000), rows)
            self.assertEqual(stand_behind(web, stand, 2000), at)

    def test_one_count_and_then_another(self):
        for web, phases in sample_webs(120, 2):
            stand = stand_of(web, phases)
            for one, other in ((0, 9), (9, 0), (1, 1), (13, 40), (100, 3)):
                middle = stand_behind(web, stand, one)
                self.assertEqual(stand_behind(web, middle, other), stand_behind(web, stand, one + other))
                later = [(count + one, waves) for count, waves in run(web, middle, other)]
                self.assertEqual(run(web, stand, one) + later, run(web, stand, one + other))

    def test_the_told_list_is_the_askers_own(self):
        for web, phases in sample_webs(121, 2):
            stand = stand_of(web, phases)
            told = run(web, stand, 60)
            kept = list(told)
            told.append((61, ()))
            told.reverse()
            self.assertEqual(run(web, stand, 60), kept)
            told.clear()
            self.assertEqual(run(web, stand, 60), kept)
            self.assertEqual(stand, stand_of(web, phases))


class SwarmsOfWholeSteps(GlowCase):
    def test_all_worms_tied_do_as_the_swarm_does(self):
        draws = Draws(122)
        for done in range(30):
            worms = 1 + draws.below(8)
            count = 2 + draws.below(59)
            up = draws.below(count + 1)
            while Fraction(up, count).denominator > 12:
                up = draws.below(count + 1)
            phases = [draws.below(count) for worm in range(worms)]
            numbers = [Fraction(phase, count) for phase in phases + [up]]
            numbers = [(part.numerator, part.denominator) for part in numbers]
            swarm = (((1, 1), numbers[-1]), tuple(numbers[:-1]))
            ties = [(one, to, 0) for one in range(worms) for to in range(worms) if one != to]
            web = web_of([count] * worms, [[up] * count] * worms, ties)
            rows = run(web, stand_of(web, phases), 4 * count)
            glows = [(as_fraction(hour) * count, waves) for hour, waves, anew in history(swarm, 40)]
            glows = [row for row in glows if row[0] <= 4 * count]
            self.assertEqual(rows[:len(glows)], glows)
            self.assertEqual(rows[len(glows):], [] if len(glows) < 40 else rows[40:])


if __name__ == "__main__":
    unittest.main()
