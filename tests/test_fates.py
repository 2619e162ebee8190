"""Points 21 and 22, and points 2 and 3 as far as they speak of papers and fates."""

import unittest
from fractions import Fraction

from glowflock.histories import behind, history
from glowflock.papers import fate, lets_by, paper_of
from glowflock.rounds import laid, round_map
from glowflock.rules import bend, rule_of
from glowflock.still import free_rounds, still
from glowflock.swarms import flocks, moved, swarm_of
from helper import (
    FALLING, GREAT, RISING, RULES, Draws, GlowCase, as_fraction, as_number, glow_push_by_push, is_same, laid_of,
    round_glow_by_glow, sample_swarms, walked, written,
)

WORDS = ("one", "rests", "drawn")
DOUBLE = ((2, 1), (0, 1))
SLOW = ((9, 8), (1, 12))
QUARTER = ((1, 1), (1, 4))
HALF = ((1, 2), (1, 2))
FATES = (
    ((QUARTER, ((1, 2),)), ("one", 1)),
    ((DOUBLE, ((1, 2),) * 8), ("one", 1)),
    ((QUARTER, ((0, 1), (1, 3), (0, 1))), ("one", 1)),
    ((QUARTER, ((1, 3), (0, 1))), ("rests", 2)),
    ((QUARTER, ((1, 2), (1, 6))), ("rests", 2)),
    ((QUARTER, ((1, 5), (0, 1))), ("one", 1)),
    ((((1, 1), (0, 1)), tuple((top, 8) if top % 2 else as_number(Fraction(top, 8)) for top in range(8))), ("rests", 8)),
    ((((1, 1), (1, 12)), ((2, 3), (0, 1), (1, 3), (0, 1), (2, 3), (1, 3))), ("rests", 3)),
    ((DOUBLE, ((0, 1), (2, 3))), ("rests", 2)),
    ((DOUBLE, ((1, 10), (23, 30))), ("rests", 2)),
    ((DOUBLE, ((0, 1), (3, 5))), ("one", 1)),
    ((HALF, ((0, 1), (2, 3))), ("rests", 2)),
    ((HALF, ((1, 2), (0, 1))), ("drawn", 2)),
    ((((7, 8), (1, 8)), ((0, 1), (2, 3), (1, 3))), ("drawn", 3)),
    ((((1, 2), (3, 5)), ((31, 50), (0, 1), (31, 50))), ("drawn", 2)),
    ((((5, 7), (4, 11)), ((29, 60), (11, 30), (11, 30), (0, 1))), ("one", 1)),
)


def rest_tops(rule, sizes):
    """The tops of the round of the still places, by what a round makes of noughts."""
    gap = 1 - as_fraction(rule[0]) ** sum(sizes)
    shifts = round_glow_by_glow(rule, sizes, ((0, 1),) * (len(sizes) - 1))[0]
    rest = tuple(as_number(as_fraction(shift) / gap) for shift in shifts)
    return [as_fraction(top) for top in round_glow_by_glow(rule, sizes, rest)[2]]


def glows_that_join_none(swarm, most):
    """How many glows come ahead of one that joins, at most so many, and the swarm behind that one."""
    for count in range(most):
        wait, waves, swarm = glow_push_by_push(swarm)
        if len(waves) > 1:
            return count, swarm
    return most, swarm


def end_of(swarm):
    """What becomes of a swarm, as the document's words go; None where that is to be refused."""
    swarm = glow_push_by_push(swarm)[2]
    while True:
        sizes, places = laid_of(swarm)
        if len(sizes) == 1:
            return "one", 1
        most = 31 * len(sizes)
        count, anew = glows_that_join_none(swarm, most)
        if count == most:
            break
        swarm = anew
    if round_glow_by_glow(swarm[0], sizes, places)[0] == places:
        return "rests", len(sizes)
    if as_fraction(swarm[0][0]) < 1 and max(rest_tops(swarm[0], sizes)) <= 1:
        return "drawn", len(sizes)
    return None


class FateCase(GlowCase):
    def ends(self, swarm, wanted):
        self.assertEqual(fate(swarm), wanted, swarm)
        self.assertTrue(is_same(fate(swarm), wanted))
        paper = paper_of(swarm)
        self.assertIs(type(paper), list)
        self.assertEqual(paper[-1][2], wanted[0], swarm)
        self.assertEqual(len(set(paper[-1][1])), wanted[1])
        for word in WORDS:
            self.assertIs(lets_by(swarm, paper[:-1] + [paper[-1][:2] + (word,)]), word == wanted[0], (swarm, word))

    def is_too_long(self, swarm):
        self.refused("TooLong", paper_of, swarm)
        self.refused("TooLong", fate, swarm)


class Fates(FateCase):
    def test_by_hand(self):
        for swarm, wanted in FATES:
            self.ends(swarm, wanted)
            self.assertEqual(end_of(swarm), wanted)

    def test_of_samples_push_by_push(self):
        seen = {}
        for swarm in sample_swarms(70, RULES, 2):
            wanted = end_of(swarm)
            if wanted is None:
                self.is_too_long(swarm)
            else:
                self.ends(swarm, wanted)
                seen[(bend(swarm[0]), wanted[0])] = True
        for row in (("rising", "one"), ("even", "one"), ("even", "rests"), ("falling", "one"), ("falling", "drawn")):
            self.assertIn(row, seen)
        self.assertNotIn(("rising", "drawn"), seen)
        self.assertNotIn(("even", "drawn"), seen)

    def test_of_still_places(self):
        seen = {}
        draws = Draws(71)
        for rule in RISING + FALLING:
            for sizes in ((1, 1), (2, 1), (1, 3), (1, 1, 1), (2, 1, 1), (1, 2, 1), (1, 1, 1, 1), (1,) * 8):
                places = [as_fraction(place) for place in still(rule, sizes)] + [Fraction(0)]
                if places != sorted(set(places), reverse=True) or places[0] >= 1:
                    continue
                phases = [as_number(place) for place, size in zip(places, sizes) for done in range(size)]
                swarm = (rule, tuple(draws.shuffled(phases)))
                wanted = end_of(swarm)
                self.ends(swarm, wanted)
                seen[(bend(rule),) + wanted] = True
        for row in (("rising", "rests", 2), ("rising", "rests", 8), ("falling", "rests", 2), ("falling", "rests", 8)):
            self.assertIn(row, seen)

    def test_of_told_swarms_with_many_figures(self):
        for swarm in sample_swarms(72, FALLING[:3] + RISING[:2], 1):
            if end_of(swarm) is None:
                continue
            anew = behind(swarm, 40)[1]
            self.ends(anew, fate(swarm))
            self.ends(behind(anew, 40)[1], fate(swarm))

    def test_the_form_of_the_rows(self):
        for swarm in sample_swarms(73, RULES, 1):
            paper = paper_of(swarm)
            self.assertEqual(paper[0][:2], ((0, 1), swarm[1]))
            for row in paper[:-1]:
                self.assertEqual([type(part) for part in row], [tuple, tuple, int, int])
                self.assertTrue(0 <= row[2] <= 30 and 0 <= row[3] <= 40)
            self.assertEqual([type(part) for part in paper[-1]], [tuple, tuple, str])
            for row in paper:
                for told in (row[0],) + row[1]:
                    self.is_plain_number(told)


class WhatAPaperShows(FateCase):
    def test_its_rows_are_stands_of_the_history(self):
        for swarm in sample_swarms(74, RULES, 1):
            paper = paper_of(swarm)
            hour, at = Fraction(0), swarm
            for row, following in zip(paper, paper[1:]):
                self.assertEqual((as_number(hour), at[1]), row[:2])
                many = row[2] * len(set(row[1])) + row[3]
                wait, at, joins = walked(at, many)
                hour += as_fraction(wait)
            self.assertEqual((as_number(hour), at[1]), paper[-1][:2])

    def test_one_glows_together_from_then_on(self):
        for swarm, wanted in FATES:
            if wanted[0] == "one":
                last = (swarm[0], paper_of(swarm)[-1][1])
                for row in history(last, 40):
                    self.assertEqual(row[1], (tuple(range(len(swarm[1]))),))

    def test_resting_ones_come_to_the_same_places(self):
        for swarm, wanted in FATES:
            if wanted[0] == "rests":
                last = (swarm[0], paper_of(swarm)[-1][1])
                for done in range(3):
                    self.assertEqual(behind(last, done * wanted[1])[1], last)
                self.assertEqual([len(row[1]) for row in history(last, 40)], [1] * 40)

    def test_drawn_ones_never_come_again(self):
        for swarm, wanted in FATES:
            if wanted[0] != "drawn":
                continue
            last = (swarm[0], paper_of(swarm)[-1][1])
            self.assertEqual([len(row[1]) for row in history(last, 40)], [1] * 40)
            sizes, places = laid(last)
            rest = still(swarm[0], sizes)
            factor = as_fraction(round_map(swarm[0], sizes)[0])
            self.assertEqual(factor, as_fraction(swarm[0][0]) ** len(swarm[1]))
            seen = []
            for done in range(12):
                self.assertNotIn(places, seen)
                seen.append(places)
                anew = laid(behind(last, (done + 1) * len(sizes))[1])[1]
                for place, now, still_place in zip(places, anew, rest):
                    off = as_fraction(place) - as_fraction(still_place)
                    self.assertEqual(as_fraction(now) - as_fraction(still_place), factor * off)
                places = anew

    def test_a_rising_rule_rests_at_the_still_places_alone(self):
        for swarm in sample_swarms(75, RISING, 2):
            if end_of(swarm) is not None:
                word, count = fate(swarm)
                last = (swarm[0], paper_of(swarm)[-1][1])
                self.assertEqual(word == "rests", count > 1)
                if count > 1:
                    sizes, places = laid(last)
                    self.assertEqual(places, still(swarm[0], sizes))


class CutOtherwise(FateCase):
    def lets(self, swarm, steps, wanted):
        paper = written(swarm, steps, wanted[0])
        for word in WORDS:
            told = lets_by(swarm, paper[:-1] + [paper[-1][:2] + (word,)])
            self.assertIs(told, word == wanted[0], (swarm, steps, word))

    def test_of_samples(self):
        found = 0
        for swarm in sample_swarms(76, RULES, 2) + [row[0] for row in FATES]:
            wanted = fate(swarm)
            steps = [row[2:] for row in paper_of(swarm)[:-1]]
            ones = [part for rounds, glows in steps for part in [(1, 0)] * rounds + [(0, 1)] * glows]
            self.lets(swarm, steps, wanted)
            self.lets(swarm, ones, wanted)
            self.lets(swarm, [part for step in steps for part in ((0, 0), step)], wanted)
            self.lets(swarm, [part for rounds, glows in steps for part in ((rounds, 0), (0, glows))], wanted)
            self.lets(swarm, steps + [(3, 1), (1, 0), (0, 2)], wanted)
            found += len(ones) > len(steps)
        self.assertGreater(found, 30)

    def test_by_glows_alone(self):
        for swarm, wanted in FATES:
            paper = paper_of(swarm)
            many = 0
            for row in paper[:-1]:
                many += row[2] * len(set(row[1])) + row[3]
            self.lets(swarm, [(0, 40)] * (many // 40) + [(0, many % 40)], wanted)
            self.lets(swarm, [(0, 1)] * many, wanted)

    def test_further_than_need_be(self):
        for swarm, wanted in FATES:
            self.lets(swarm, [row[2:] for row in paper_of(swarm)[:-1]] + [(30, 40)], wanted)

    def test_no_two_tell_otherwise(self):
        """Whatever rounds and glows lead to a last row, no other word than the fate's is let by."""
        draws = Draws(77)
        seen = {}
        for swarm in sample_swarms(78, RULES, 1):
            wanted = fate(swarm)[0]
            for done in range(3):
                steps = [(draws.below(3), draws.below(9)) for turn in range(draws.below(5))]
                for word in WORDS:
                    told = lets_by(swarm, written(swarm, steps, word))
                    self.assertTrue(word == wanted or not told)
                    seen[told] = True
        self.assertEqual(sorted(seen), [False, True])


def with_glows(rule, rest, many):
    """Swarms of two worms beside still places that so many glows of don't join."""
    told = []
    factor = as_fraction(rule[0]) ** 2
    for way in (1, -1):
        for turn in range(5, 60, 9):
            step = way * Fraction(turn, 240) / factor ** (many // 2)
            swarm = (rule, (as_number(rest + step), (0, 1)))
            if glows_that_join_none(swarm, many + 1)[0] == many:
                told.append(swarm)
    return told


class TooLong(FateCase):
    def test_behind_the_first_glow(self):
        for rule, rest in ((DOUBLE, Fraction(2, 3)), (((3, 2), (1, 12)), Fraction(19, 30))):
            seen = {}
            for many in (59, 60, 61, 62, 63, 64, 80):
                for swarm in with_glows(rule, rest, many):
                    rounds = (many - 1) // 2
                    if rounds > 30:
                        self.is_too_long(swarm)
                        self.assertIsNone(end_of(swarm))
                    else:
                        self.ends(swarm, ("one", 1))
                        self.assertEqual(paper_of(swarm)[1][2], rounds)
                    seen[many] = True
            for many in (61, 62, 63, 64):
                self.assertIn(many, seen)

    def test_of_made_swarms(self):
        for b, top, bottom, rounds in (
            ((1, 12), 33, 58, 30), ((1, 9), 25, 43, 30), ((5, 9), 34, 43, 30), ((2, 11), 8, 13, 29),
        ):
            swarm = swarm_of(rule_of((9, 8), b), [(top, bottom), (0, 1)])
            self.ends(swarm, ("one", 1))
            self.assertEqual(end_of(swarm), ("one", 1))
            self.assertEqual(paper_of(swarm)[1][2], rounds)
        for b, top, bottom in (((1, 10), 34, 59), ((1, 7), 34, 57), ((1, 9), 32, 55), ((2, 9), 26, 41), ((3, 11), 25, 38)):
            swarm = swarm_of(rule_of((9, 8), b), [(top, bottom), (0, 1)])
            self.is_too_long(swarm)
            self.assertIsNone(end_of(swarm))

    def test_the_rounds_ahead_of_the_first_glow_are_not_asked(self):
        found = 0
        for swarm in with_glows(DOUBLE, Fraction(2, 3), 62):
            sizes, places = laid(swarm)
            self.refused("TooLong", free_rounds, swarm[0], sizes, places)
            self.ends(swarm, ("one", 1))
            found += 1
        self.assertGreater(found, 0)

    def swarm_that_joins(self, step, ahead):
        """So many glows ahead of one that joins and leads two flocks so far off their still place."""
        phases = [Fraction(0), Fraction(6, 7) - step / 4, Fraction(3, 7)]
        for turn in (0, 2)[:ahead]:
            # Back by a glow of the worm that is at 0: a push makes twice of the others here.
            wait = min(phase / 2 for worm, phase in enumerate(phases) if worm != turn)
            phases = [1 - wait if worm == turn else phase / 2 - wait for worm, phase in enumerate(phases)]
        return DOUBLE, tuple(as_number(phase) for phase in phases)

    def test_behind_a_glow_that_joins(self):
        for ahead in (0, 1, 2):
            seen = {}
            for many in (30, 31, 40):
                for turn in (-40, -24, -16, -9, -2, 2, 9, 13, 24, 40):
                    step = Fraction(turn, 200) / 8 ** (many - 1)
                    swarm = self.swarm_that_joins(step, ahead)
                    self.assertEqual(walked(swarm, ahead)[2], 0)
                    waits, at, joins = walked(swarm, ahead + 1)
                    self.assertEqual(joins, 1)
                    self.assertEqual(laid_of(at), ((1, 2), (as_number(Fraction(4, 7) + step),)))
                    glows = glows_that_join_none(at, 120)[0]
                    seen[glows] = True
                    if glows // 2 > 30:
                        self.is_too_long(swarm)
                    else:
                        self.ends(swarm, ("one", 1))
            for glows in (60, 61, 62, 63):
                self.assertIn(glows, seen)
            self.ends(self.swarm_that_joins(Fraction(0), ahead), ("rests", 2))

    def test_of_told_phases(self):
        """Phases that a falling rule has drawn near to what are still places of a rising one, too."""
        self.assertEqual(still(HALF, (1, 1)), still(DOUBLE, (1, 1)))
        swarm = (HALF, ((1, 2), (0, 1)))
        near = behind(swarm, 40)[1]
        self.ends((DOUBLE, near[1]), ("one", 1))
        self.assertGreater(paper_of((DOUBLE, near[1]))[1][2], 15)
        nearer = behind(near, 40)[1]
        self.is_too_long((DOUBLE, nearer[1]))
        self.ends(nearer, ("drawn", 2))

    def test_near_still_places(self):
        for sizes in ((1, 1), (1, 1, 1), (1,) * 8):
            rest = [as_fraction(place) for place in still(SLOW, sizes)] + [Fraction(0)]
            off = [place + Fraction(1 + turn % 2, GREAT) for turn, place in enumerate(rest[:-1])] + [Fraction(0)]
            self.ends((SLOW, tuple(as_number(place) for place in rest)), ("rests", len(sizes)))
            self.is_too_long((SLOW, tuple(as_number(place) for place in off)))


class Alike(FateCase):
    def test_moved_alike_changes_the_hours_alone(self):
        found = 0
        for swarm in sample_swarms(79, RULES, 1):
            gap = 1 - max(as_fraction(phase) for phase in swarm[1])
            c = gap / 3
            one, other = paper_of(swarm), paper_of(moved(swarm, as_number(c)))
            self.assertEqual(fate(moved(swarm, as_number(c))), fate(swarm))
            self.assertEqual([row[1:] for row in other[1:]], [row[1:] for row in one[1:]])
            for row, its in zip(one[1:], other[1:]):
                self.assertEqual(as_fraction(its[0]), as_fraction(row[0]) - c)
            found += 1
        self.assertGreater(found, 100)

    def test_worms_exchanged_exchange_all(self):
        draws = Draws(80)
        for rule, phases in sample_swarms(81, RULES, 1):
            order = draws.shuffled(range(len(phases)))
            exchanged = (rule, tuple(phases[order.index(worm)] for worm in range(len(phases))))
            self.assertEqual(fate(exchanged), fate((rule, phases)))
            wanted = [
                (row[0], tuple(row[1][order.index(worm)] for worm in range(len(phases)))) + row[2:]
                for row in paper_of((rule, phases))
            ]
            self.assertIs(lets_by(exchanged, wanted), True)


class TheAskersOwn(FateCase):
    def test_changed_and_asked_again(self):
        for swarm, wanted in FATES:
            told = paper_of(swarm)
            kept = list(told)
            told.append("other")
            told[0] = None
            told.reverse()
            self.assertEqual(paper_of(swarm), kept)
            self.assertIs(lets_by(swarm, kept), True)
            self.assertEqual(fate(swarm), wanted)

    def test_what_is_told_is_handed_in_again(self):
        for swarm, wanted in FATES:
            for row in paper_of(swarm):
                at = (swarm[0], row[1])
                self.ends(at, wanted)
                self.assertEqual(len(flocks(at)), len(set(row[1])))


if __name__ == "__main__":
    unittest.main()
