"""Points 24 and 25, and point 2 as far as it speaks of webs and their stands."""

import copy
import unittest

from glowflock.webs import stand_of, web_of
from helper import GREAT, KINDS, Draws, GlowCase, is_same, sample_webs, ways_into, what_lies_at, with_other

ROUNDS = (3, 1, 60)
UPS = ((0, 1, 60), (0,), tuple(range(60)))
TIES = ((0, 1, 0), (0, 1, 4), (0, 2, 1), (1, 0, 2), (2, 1, 3))
WEB = (ROUNDS, UPS, TIES)
NONE_COMING = ((0, 0, 0),) * 4


def ties_among(worms):
    return [(one, to, delay) for one in range(worms) for to in range(worms) for delay in range(5) if one != to]


class Made(GlowCase):
    def makes(self, things, wanted):
        told = web_of(*things)
        self.assertTrue(is_same(told, wanted), (told, wanted))

    def none_so(self, *things):
        self.refused("NoWeb", web_of, *things)

    def test_of_one_worm(self):
        self.makes(((1,), ((0,),), ()), ((1,), ((0,),), ()))
        self.makes(([60], [[60] * 60], []), ((60,), ((60,) * 60,), ()))

    def test_of_eight_worms(self):
        rounds = (1, 2, 3, 4, 5, 6, 7, 60)
        ups = tuple((60,) * count for count in rounds)
        ties = tuple(ties_among(8)[::5][:60])
        self.makes((rounds, ups, ties), (rounds, ups, ties))

    def test_of_samples(self):
        for web, phases in sample_webs(100, 6):
            self.makes(web, web)

    def test_lists_count_as_tuples_in_each_place(self):
        for way in ways_into(WEB)[1:]:
            if isinstance(what_lies_at(WEB, way), tuple):
                self.makes(with_other(WEB, way, list), WEB)
        self.makes((list(ROUNDS), [list(own) for own in UPS], [list(tie) for tie in TIES]), WEB)
        self.makes((list(ROUNDS), UPS, [tuple(tie) for tie in TIES]), WEB)

    def test_ties_in_any_order(self):
        draws = Draws(101)
        for done in range(20):
            ties = draws.shuffled(TIES)
            self.makes((ROUNDS, UPS, ties), WEB)
            self.makes((ROUNDS, UPS, tuple(list(tie) if draws.below(2) else tie for tie in ties)), WEB)
        for web, phases in sample_webs(102, 2):
            self.makes(web[:2] + (draws.shuffled(web[2]),), web)

    def test_sixty_ties_and_one_more(self):
        rounds = (2,) * 4
        ups = ((1, 1),) * 4
        ties = ties_among(4)
        self.assertEqual(len(ties), 60)
        self.makes((rounds, ups, ties[::-1]), (rounds, ups, tuple(ties)))
        ties = ties_among(5)
        for count in (61, 62, 80):
            self.none_so((2,) * 5, ((1, 1),) * 5, ties[:count])
            self.none_so((2,) * 5, ((1, 1),) * 5, tuple(ties[:count]))
        self.makes(((2,) * 5, ((1, 1),) * 5, ties[:60]), ((2,) * 5, ((1, 1),) * 5, tuple(ties[:60])))

    def test_ties_both_ways_and_with_other_delays(self):
        ties = ((0, 1, 0), (0, 1, 1), (0, 1, 2), (0, 1, 3), (0, 1, 4), (1, 0, 0), (1, 0, 4))
        self.makes(((1, 1), ((0,), (0,)), ties), ((1, 1), ((0,), (0,)), ties))

    def test_no_worm_and_nine(self):
        self.none_so((), (), ())
        self.none_so([], [], [])
        self.none_so((1,) * 9, ((0,),) * 9, ())
        self.none_so([1] * 100, [[0]] * 100, [])

    def test_rounds_out_of_bounds(self):
        for count in (0, -1, 61, 100, GREAT, -GREAT):
            for worm in range(3):
                rounds = ROUNDS[:worm] + (count,) + ROUNDS[worm + 1:]
                ups = UPS[:worm] + ((0,) * min(max(count, 0), 100),) + UPS[worm + 1:]
                self.none_so(rounds, ups, TIES)
                self.none_so(rounds, UPS, TIES)
        self.makes(((60,), ((0,) * 60,), ()), ((60,), ((0,) * 60,), ()))
        self.none_so((61,), ((0,) * 61,), ())
        self.none_so((0,), ((),), ())

    def test_too_few_or_too_many_ups(self):
        for worm in range(3):
            for own in (UPS[worm][:-1], UPS[worm] + (0,), UPS[worm] * 2, ()):
                self.none_so(ROUNDS, UPS[:worm] + (own,) + UPS[worm + 1:], TIES)
        for ups in (UPS[:-1], UPS[1:], UPS + ((0,),), UPS + UPS[-1:], (), UPS[::-1]):
            self.none_so(ROUNDS, ups, TIES)

    def test_ups_out_of_bounds(self):
        for up in (61, 62, -1, GREAT, -GREAT):
            for way in ((1, 0, 0), (1, 0, 2), (1, 1, 0), (1, 2, 59)):
                self.none_so(*with_other(WEB, way, lambda it: up))

    def test_a_tie_twice(self):
        for tie in TIES:
            self.none_so(ROUNDS, UPS, TIES + (tie,))
            self.none_so(ROUNDS, UPS, [list(tie)] + list(TIES))
        self.none_so((1, 1), ((0,), (0,)), [(0, 1, 0), [0, 1, 0]])

    def test_a_tie_from_a_worm_to_itself(self):
        for worm in range(3):
            for delay in range(5):
                self.none_so(ROUNDS, UPS, TIES + ((worm, worm, delay),))
        self.none_so((1,), ((0,),), ((0, 0, 0),))

    def test_a_tie_to_no_worm(self):
        for tie in ((0, 3, 0), (3, 0, 0), (-1, 0, 0), (0, -1, 0), (0, 8, 0), (GREAT, 0, 0), (0, -3, 1)):
            self.none_so(ROUNDS, UPS, TIES + (tie,))
            self.none_so(ROUNDS, UPS, (tie,))
        self.none_so((1,), ((0,),), ((0, 1, 0),))

    def test_delays_out_of_bounds(self):
        for delay in (5, 6, -1, GREAT, -GREAT):
            self.none_so(ROUNDS, UPS, TIES + ((2, 0, delay),))
        for delay in range(5):
            self.makes((ROUNDS, UPS, TIES + ((2, 1, 4), (2, 0, delay))), (ROUNDS, UPS, tuple(sorted(
                TIES + ((2, 1, 4), (2, 0, delay))
            ))))

    def test_ties_of_two_or_four_things(self):
        for tie in ((), (0,), (0, 1), (2, 0, 1, 1), ((0, 1), 2)):
            self.none_so(ROUNDS, UPS, TIES + (tie,))

    def test_truths(self):
        found = 0
        for way in ways_into(WEB):
            if what_lies_at(WEB, way) in (0, 1):
                self.none_so(*with_other(WEB, way, bool))
                found += 1
        self.assertGreater(found, 10)

    def test_other_kinds_in_each_place(self):
        for way in ways_into(WEB)[1:]:
            thing = what_lies_at(WEB, way)
            for other in KINDS:
                if is_same(thing, other) or (isinstance(thing, int) and type(other) is int):
                    # Other whole numbers may make a web as well; the bounds have tests of their own.
                    continue
                if len(way) == 1 and way[0] == 2 and other in ((), []):
                    continue
                if len(way) == 2 and other in ([0], (0, 1, 1)) and way[0] in (1, 2):
                    # Ups in a list, other ups, another tie: these make webs, each in its place.
                    continue
                self.none_so(*with_other(WEB, way, lambda it: other))

    def test_of_any_three_things(self):
        for thing in KINDS:
            self.none_so(thing, thing, thing)
            self.none_so(thing, UPS, TIES)
            self.none_so(ROUNDS, thing, TIES)
            if thing not in ((), []):
                self.none_so(ROUNDS, UPS, thing)
        self.none_so(iter(ROUNDS), UPS, TIES)
        self.none_so(ROUNDS, iter(UPS), TIES)
        self.none_so(ROUNDS, UPS, iter(TIES))
        self.none_so(ROUNDS, UPS, set(TIES))
        self.none_so(ROUNDS, dict(enumerate(UPS)), TIES)

    def test_the_lists_stay_and_are_not_kept(self):
        rounds, ups, ties = list(ROUNDS), [list(own) for own in UPS], [list(tie) for tie in TIES[::-1]]
        kept = copy.deepcopy((rounds, ups, ties))
        told = web_of(rounds, ups, ties)
        self.assertEqual((rounds, ups, ties), kept)
        rounds[0] = 9
        ups[0][0] = 9
        ups.pop()
        ties[0][2] = 0
        ties.clear()
        self.assertTrue(is_same(told, WEB))
        self.assertTrue(is_same(web_of(*kept), WEB))

    def test_what_is_told_makes_itself(self):
        for web, phases in sample_webs(103, 3):
            self.makes(web_of(*web), web)


class FirstStands(GlowCase):
    def none_so(self, web, phases):
        self.refused("NoStand", stand_of, web, phases)

    def test_nothing_is_coming(self):
        for phases in ((0, 0, 0), (2, 0, 59), (1, 0, 30)):
            for given in (phases, list(phases)):
                self.assertTrue(is_same(stand_of(WEB, given), (phases, NONE_COMING)))
        self.assertTrue(is_same(stand_of(web_of([1], [[0]], []), [0]), ((0,), ((0,),) * 4)))

    def test_of_samples(self):
        for web, phases in sample_webs(104, 6):
            wanted = (phases, ((0,) * len(phases),) * 4)
            self.assertTrue(is_same(stand_of(web, phases), wanted))
            self.assertTrue(is_same(stand_of(web, list(phases)), wanted))

    def test_phases_out_of_bounds(self):
        for web, phases in sample_webs(105, 2):
            for worm, count in enumerate(web[0]):
                for phase in (count, count + 1, -1, 100, GREAT, -GREAT):
                    self.none_so(web, phases[:worm] + (phase,) + phases[worm + 1:])
                self.assertEqual(stand_of(web, phases[:worm] + (count - 1,) + phases[worm + 1:])[0][worm], count - 1)

    def test_too_few_and_too_many(self):
        for phases in ((), (0,), (0, 0), (0, 0, 0, 0), (0,) * 100):
            self.none_so(WEB, phases)
            self.none_so(WEB, list(phases))

    def test_truths(self):
        self.none_so(WEB, (True, 0, 0))
        self.none_so(WEB, (0, False, 0))
        self.none_so(WEB, [0, 0, True])

    def test_other_kinds(self):
        for thing in KINDS:
            self.none_so(WEB, thing)
            for worm in range(3):
                if type(thing) is not int:
                    self.none_so(WEB, (0,) * worm + (thing,) + (0,) * (2 - worm))
                    self.none_so(WEB, [0] * worm + [thing] + [0] * (2 - worm))
        for thing in ((0, 1), (0, 0.0, 0), "000", iter((0, 0, 0)), {0: 0, 1: 0, 2: 0}, {0, 1, 2}, b"\x00\x00\x00",
                      range(3), stand_of(WEB, (0, 0, 0)), ((0, 0, 0),), WEB):
            self.none_so(WEB, thing)

    def test_the_list_stays_and_is_not_kept(self):
        phases = [1, 0, 7]
        told = stand_of(WEB, phases)
        self.assertEqual(phases, [1, 0, 7])
        phases[0] = 2
        phases.append(1)
        self.assertTrue(is_same(told, ((1, 0, 7), NONE_COMING)))
        wrong = [0, [1], None]
        self.none_so(WEB, wrong)
        self.assertEqual(wrong, [0, [1], None])


if __name__ == "__main__":
    unittest.main()
