"""Point 20, and point 2 as far as it speaks of papers that are looked through."""

import copy
import unittest
from fractions import Fraction

from glowflock.papers import lets_by, paper_of
from glowflock.swarms import moved, swarm_of
from helper import (
    EVEN, GREAT, KINDS, NO_NUMBERS, RISING, RULES, GlowCase, as_fraction, as_number, is_same, laid_of,
    round_glow_by_glow, sample_swarms, walked, ways_into, what_lies_at, with_other, written,
)

WORDS = ("one", "rests", "drawn")
DOUBLE = ((2, 1), (0, 1))
QUARTER = ((1, 1), (1, 4))
HALF = ((1, 2), (1, 2))
ENDS = ((1, 2), (3, 5))
# A swarm that becomes one: two free rounds, and in the third one a glow that joins.
BECOMES_ONE = (QUARTER, ((0, 1), (1, 3), (0, 1)))
RESTING = (
    (QUARTER, ((1, 3), (0, 1))),
    (DOUBLE, ((0, 1), (2, 3))),
    (HALF, ((0, 1), (2, 3))),
    (((1, 1), (1, 12)), ((2, 3), (0, 1), (1, 3), (0, 1), (2, 3), (1, 3))),
)
DRAWN = (
    (HALF, ((1, 2), (0, 1))),
    (((7, 8), (1, 6)), ((0, 1), (1, 2), (0, 1), (1, 2))),
    (((7, 8), (1, 8)), ((0, 1), (2, 3), (1, 3))),
    # Here a top of the round of the still places is just 1.
    (ENDS, ((31, 50), (0, 1), (31, 50))),
)
# One row, rows of rounds, of glows, of both and of neither.
STEPS = (
    [], [(1, 0)], [(30, 0)], [(0, 1)], [(0, 7)], [(0, 40)], [(3, 5)], [(30, 40)], [(0, 0)], [(0, 0)] * 3,
    [(0, 1), (2, 0), (0, 0), (1, 2)], [(2, 1), (0, 3), (4, 0)], [(1, 1)] * 12,
)
ONE_STEPS = (
    [(2, 2)], [(2, 1), (0, 1)], [(1, 0), (1, 0), (0, 2)], [(0, 1)] * 6, [(0, 6)], [(1, 4)], [(1, 1), (1, 1)], [(0, 40)],
    [(2, 2), (0, 0)], [(2, 2), (30, 40), (1, 0)], [(0, 0), (0, 1), (1, 0), (0, 3), (0, 0)],
)


def by_rounds(swarm, rounds, glows, word):
    """A paper of two rows, come to by rounds that nothing is asked of."""
    rule, phases = swarm
    sizes, places = laid_of(swarm)
    ahead = places
    hour = Fraction(0)
    for done in range(rounds):
        ahead, time, ends = round_glow_by_glow(rule, sizes, ahead)
        hour += as_fraction(time)
    now = dict(zip(places + ((0, 1),), ahead + ((0, 1),)))
    wait, anew, joins = walked((rule, tuple(now[phase] for phase in phases)), glows)
    return [((0, 1), phases, rounds, glows), (as_number(hour + as_fraction(wait)), anew[1], word)]


def later(rows, first, hours):
    """The same rows, but those from the first one on that is named have other hours."""
    told = []
    for turn, row in enumerate(rows):
        hour = as_number(as_fraction(row[0]) + hours) if turn >= first else row[0]
        told.append((hour,) + row[1:])
    return told


def samples():
    told = [(BECOMES_ONE, written(BECOMES_ONE, steps, "one")) for steps in ONE_STEPS]
    told.extend((swarm, written(swarm, steps, "rests")) for swarm in RESTING for steps in STEPS)
    told.extend((swarm, written(swarm, steps, "drawn")) for swarm in DRAWN for steps in STEPS)
    return told


SAMPLES = samples()
# Without rows that leave all as it was, so that each place tells on the others.
TIGHT = [SAMPLES[0], SAMPLES[1], SAMPLES[2]] + [
    (swarm, written(swarm, steps, word))
    for swarm, word in ((RESTING[0], "rests"), (RESTING[1], "rests"), (DRAWN[0], "drawn"), (DRAWN[3], "drawn"))
    for steps in ([], [(1, 0)], [(0, 1), (2, 3)])
]


class PaperCase(GlowCase):
    def lets(self, swarm, paper):
        self.assertIs(lets_by(swarm, paper), True, (swarm, paper))

    def stops(self, swarm, paper):
        self.assertIs(lets_by(swarm, paper), False, (swarm, paper))


class LetBy(PaperCase):
    def test_by_hand(self):
        self.lets(BECOMES_ONE, [
            ((0, 1), ((0, 1), (1, 3), (0, 1)), 2, 2),
            ((9, 4), ((0, 1), (0, 1), (0, 1)), "one"),
        ])
        self.lets(RESTING[0], [((0, 1), ((1, 3), (0, 1)), 3, 1), ((35, 12), ((0, 1), (11, 12)), "rests")])
        self.lets(DRAWN[0], [((0, 1), ((1, 2), (0, 1)), 1, 0), ((3, 4), ((5, 8), (0, 1)), "drawn")])

    def test_each_word_with_all_sorts_of_rows(self):
        for swarm, paper in SAMPLES:
            self.lets(swarm, paper)

    def test_of_one_row_alone(self):
        for phases in (((0, 1),), ((59, 60),), ((1, 2),) * 8, ((0, 1),) * 3):
            for rule in RULES:
                self.lets((rule, phases), [((0, 1), phases, "one")])
        for swarm in RESTING:
            self.lets(swarm, [((0, 1), swarm[1], "rests")])
        for swarm in DRAWN:
            self.lets(swarm, [((0, 1), swarm[1], "drawn")])

    def test_rounds_of_one_flock(self):
        for rule in RULES:
            swarm = (rule, ((0, 1),) * 3)
            for rounds in (1, 30):
                rows = [((0, 1), swarm[1], rounds, 2), ((rounds + 2, 1), swarm[1], "one")]
                self.lets(swarm, rows)

    def test_as_many_rows_as_may_be(self):
        for swarm, word in ((RESTING[1], "rests"), (DRAWN[0], "drawn")):
            for steps in ([(1, 1)] * 99, [(0, 1)] * 99, [(0, 0)] * 99):
                self.lets(swarm, written(swarm, steps, word))
        self.lets(RESTING[0], written(RESTING[0], [(30, 40)] * 99, "rests"))

    def test_from_stands_that_are_not_laid(self):
        for swarm, word in ((RESTING[0], "rests"), (DRAWN[0], "drawn"), (BECOMES_ONE, "one")):
            pushed_on = moved(swarm, (1, 10))
            self.lets(pushed_on, written(pushed_on, [(0, 6)], word))
            self.lets(pushed_on, written(pushed_on, [(0, 0), (0, 1), (0, 5)], word))

    def test_made_of_lists_the_swarm_is_the_same(self):
        swarm = swarm_of(QUARTER, [(1, 3), (0, 1)])
        self.lets(swarm, written(swarm, [(3, 1)], "rests"))

    def test_with_many_figures(self):
        for swarm, word in ((DRAWN[1], "drawn"), (DRAWN[2], "drawn")):
            hour, anew, joins = walked(swarm, 200)
            self.assertGreater(anew[1][1][1], GREAT)
            self.lets(anew, written(anew, [(30, 40), (3, 3)], word))


class NotLetBy(PaperCase):
    def test_no_row(self):
        for rule, phases in sample_swarms(60, RULES, 1):
            self.stops((rule, phases), [])

    def test_a_first_hour_that_is_not_0(self):
        for swarm, paper in SAMPLES:
            for hours in (Fraction(1), Fraction(-1), Fraction(1, GREAT)):
                self.stops(swarm, later(paper, 0, hours))

    def test_other_phases_at_first(self):
        for swarm, paper in SAMPLES:
            rule, phases = swarm
            turned = phases[1:] + phases[:1]
            if turned != phases:
                self.stops((rule, turned), paper)
            behind_one = walked(swarm, 1)[1]
            if behind_one != swarm:
                self.stops(behind_one, paper)
        self.stops(BECOMES_ONE, [((0, 1), ((0, 1),) * 3, "one")])
        self.stops((QUARTER, ((1, 2),)), [((0, 1), ((0, 1),), "one")])

    def test_another_rule(self):
        for swarm, paper in SAMPLES:
            if any(row[2:] != (0, 0) for row in paper[:-1]):
                other = QUARTER if swarm[0] != QUARTER else ((1, 1), (1, 6))
                self.stops((other, swarm[1]), paper)

    def test_a_wrong_hour_behind_a_row(self):
        for swarm, paper in SAMPLES:
            for first in range(1, len(paper)):
                for hours in (Fraction(1), Fraction(-1, 3), Fraction(1, GREAT)):
                    self.stops(swarm, later(paper, first, hours))

    def test_a_wrong_phase_behind_a_row(self):
        for swarm, paper in SAMPLES:
            if len(paper) < 2 or len(paper) > 9:
                continue
            for turn in range(1, len(paper)):
                for worm in range(len(swarm[1])):
                    for step in (Fraction(1, GREAT), Fraction(-1, 2)):
                        change = lambda phase: as_number(as_fraction(phase) + step)
                        self.stops(swarm, with_other(paper, (turn, 1, worm), change))
        # All alike, as the word asks, but not at 0.
        self.stops(BECOMES_ONE, [((0, 1), BECOMES_ONE[1], 2, 2), ((9, 4), ((1, 2),) * 3, "one")])

    def test_wrong_phases_that_are_right_from_then_on(self):
        first = ((0, 1), RESTING[0][1], 1, 0)
        other = (QUARTER, ((2, 5), (0, 1)))
        time = round_glow_by_glow(QUARTER, (1, 1), ((1, 3),))[1]
        rows = later(written(other, [(2, 0)], "rests"), 0, as_fraction(time))
        self.lets(other, written(other, [(2, 0)], "rests"))
        self.stops(RESTING[0], [first] + rows)

    def test_rounds_where_the_swarm_is_not_laid(self):
        for swarm, word in ((RESTING[0], "rests"), (RESTING[1], "rests"), (DRAWN[0], "drawn")):
            pushed_on = moved(swarm, (1, 10))
            self.lets(pushed_on, written(pushed_on, [(0, 2)], word))
            self.stops(pushed_on, written(pushed_on, [(1, 0)], word))
            self.stops(pushed_on, written(pushed_on, [(2, 3)], word))
            self.lets(pushed_on, written(pushed_on, [(0, 1), (1, 0)], word))
        alike = (QUARTER, ((1, 2), (1, 2)))
        self.stops(alike, [((0, 1), alike[1], 1, 0), ((1, 2), ((0, 1), (0, 1)), "one")])
        self.stops(alike, [((0, 1), alike[1], 1, 0), ((1, 1), alike[1], "one")])

    def test_rounds_of_which_the_last_is_not_free(self):
        swarm = (QUARTER, ((3, 4), (0, 1), (3, 4)))
        self.lets(swarm, by_rounds(swarm, 1, 2, "one"))
        self.assertEqual(by_rounds(swarm, 1, 2, "one")[-1][1], ((0, 1),) * 3)
        self.assertEqual(by_rounds(swarm, 2, 1, "one")[-1][1], ((0, 1),) * 3)
        self.stops(swarm, by_rounds(swarm, 2, 1, "one"))
        self.stops(swarm, written(swarm, [(2, 0)], "one"))
        self.stops(BECOMES_ONE, written(BECOMES_ONE, [(3, 0)], "one"))
        self.stops(BECOMES_ONE, written(BECOMES_ONE, [(1, 0), (2, 0)], "one"))

    def test_rounds_of_which_the_first_is_not_free(self):
        swarm = (ENDS, ((1, 10), (0, 1)))
        for rounds in (2, 3, 30):
            rows = by_rounds(swarm, rounds, 0, "drawn")
            self.lets((ENDS, rows[1][1]), [((0, 1), rows[1][1], "drawn")])
            self.stops(swarm, rows)
        self.stops(swarm, by_rounds(swarm, 1, 0, "drawn"))
        self.lets(swarm, written(swarm, [(0, 1)], "one"))

    def test_one_round_that_is_not_free(self):
        swarm = (QUARTER, ((1, 5), (0, 1)))
        rows = by_rounds(swarm, 1, 1, "one")
        self.assertEqual(rows[1][1], ((0, 1), (0, 1)))
        self.stops(swarm, rows)

    def test_counts_below_0(self):
        for swarm, word in ((RESTING[0], "rests"), (RESTING[1], "rests"), (DRAWN[0], "drawn")):
            last = written(swarm, [], word)
            for counts in ((-1, 0), (0, -1), (-1, -1), (-1, 2), (1, -2), (-GREAT, 0)):
                self.stops(swarm, [((0, 1), swarm[1]) + counts] + last)
                self.stops(swarm, [((0, 1), swarm[1]) + counts] + written(swarm, [(1, 0)], word)[1:])
        swarm = (RESTING[0][0], ((1, 3), (0, 1)))
        back = as_number(-as_fraction(round_glow_by_glow(QUARTER, (1, 1), ((1, 3),))[1]))
        self.stops(swarm, [((0, 1), swarm[1], -1, 0), (back, swarm[1], "rests")])

    def test_counts_above_30_and_above_40(self):
        for swarm, word in ((RESTING[0], "rests"), (RESTING[1], "rests"), (DRAWN[0], "drawn"), (DRAWN[1], "drawn")):
            self.lets(swarm, written(swarm, [(30, 40)], word))
            for counts in ((31, 0), (31, 40), (30, 41), (0, 41), (60, 0), (0, 100)):
                self.stops(swarm, written(swarm, [counts], word))
                self.stops(swarm, written(swarm, [(1, 1), counts], word))
        self.lets(BECOMES_ONE, written(BECOMES_ONE, [(0, 40)], "one"))
        self.stops(BECOMES_ONE, written(BECOMES_ONE, [(0, 41)], "one"))
        self.stops(BECOMES_ONE, written(BECOMES_ONE, [(2, 2), (31, 0)], "one"))
        self.stops(BECOMES_ONE, [((0, 1), BECOMES_ONE[1], GREAT, 0), ((9, 4), ((0, 1),) * 3, "one")])

    def test_truths_in_the_place_of_whole_numbers(self):
        found = 0
        for swarm, paper in SAMPLES:
            for way in ways_into(paper):
                thing = what_lies_at(paper, way)
                if is_same(thing, 0) or is_same(thing, 1):
                    self.stops(swarm, with_other(paper, way, bool))
                    found += 1
        self.assertGreater(found, 100)

    def test_numbers_not_in_lowest_terms(self):
        for swarm, paper in SAMPLES:
            for turn in range(min(len(paper), 4)):
                for way in [(turn, 0)] + [(turn, 1, worm) for worm in range(len(swarm[1]))]:
                    for many in (2, -1, 7):
                        self.stops(swarm, with_other(paper, way, lambda it: (it[0] * many, it[1] * many)))

    def test_too_few_or_too_many_phases(self):
        for swarm, paper in SAMPLES:
            for turn in range(min(len(paper), 4)):
                for change in (
                    lambda phases: phases[1:], lambda phases: phases[:-1], lambda phases: phases + phases[-1:],
                    lambda phases: phases + ((0, 1),), lambda phases: (), lambda phases: phases * 9,
                ):
                    self.stops(swarm, with_other(paper, (turn, 1), change))
            fewer = [(row[0], row[1][:-1]) + row[2:] for row in paper]
            more = [(row[0], row[1] + row[1][-1:]) + row[2:] for row in paper]
            self.stops(swarm, fewer)
            self.stops(swarm, more)

    def test_lists_in_the_place_of_tuples_and_the_other_way_round(self):
        for swarm, paper in SAMPLES:
            self.stops(swarm, tuple(paper))
            if len(paper) > 6:
                continue
            for way in ways_into(paper):
                thing = what_lies_at(paper, way)
                if isinstance(thing, tuple):
                    self.stops(swarm, with_other(paper, way, list))

    def test_other_words(self):
        for swarm, paper in SAMPLES:
            for word in (
                "", "ONE", "One", "one ", " one", "ones", "on", "rest", "Rests", "draw", "drawn\n", "one rests", "two",
                None, 0, 1, True, ("one",), ["one"], b"one", {"one": "one"}, ("one", "rests", "drawn"),
            ):
                self.stops(swarm, paper[:-1] + [paper[-1][:2] + (word,)])

    def test_each_word_where_it_is_not_so(self):
        for swarm, paper in SAMPLES:
            for word in WORDS:
                told = lets_by(swarm, paper[:-1] + [paper[-1][:2] + (word,)])
                self.assertIs(told, word == paper[-1][2], (swarm, word))

    def test_one_flock_told_as_resting_or_drawn(self):
        for rule in RULES:
            for phases in (((0, 1),), ((0, 1),) * 4, ((1, 2),) * 2):
                self.stops((rule, phases), [((0, 1), phases, "rests")])
                self.stops((rule, phases), [((0, 1), phases, "drawn")])

    def test_rows_that_show_no_word_so_far(self):
        for swarm in (
            BECOMES_ONE,
            # Rising, even and falling; each round is free, and they are drawn nowhere.
            (DOUBLE, ((0, 1), (3, 5))), (((1, 1), (1, 12)), ((0, 1), (1, 2), (1, 2))),
            (((5, 7), (4, 11)), ((29, 60), (11, 30), (11, 30), (0, 1))),
            # Led to the same places, but by a round that isn't free.
            (QUARTER, ((1, 5), (0, 1))), (QUARTER, ((1, 4), (0, 1))),
            # The still places draw, but the round of these isn't free.
            (ENDS, ((1, 10), (0, 1))), (ENDS, ((1, 5), (0, 1))),
            # Not laid.
            moved(RESTING[0], (1, 10)), moved(RESTING[1], (1, 10)), moved(DRAWN[0], (1, 10)),
        ):
            for word in WORDS:
                self.stops(swarm, [((0, 1), swarm[1], word)])

    def test_still_places_of_a_falling_rule_whose_round_is_not_free(self):
        # Places that a round leads to themselves, with a top of just 1.
        rest = as_fraction(round_glow_by_glow(ENDS, (2, 1), ((0, 1),))[0][0]) / (1 - Fraction(1, 8))
        swarm = (ENDS, (as_number(rest), (0, 1), as_number(rest)))
        self.assertEqual(max(as_fraction(top) for top in round_glow_by_glow(ENDS, (2, 1), swarm[1][:1])[2]), 1)
        for word in WORDS:
            self.stops(swarm, [((0, 1), swarm[1], word)])

    def test_drawn_where_the_rule_does_not_fall(self):
        found = {}
        for rule, phases in sample_swarms(61, RISING + EVEN, 6):
            swarm = walked((rule, phases), 1)[1]
            self.stops(swarm, [((0, 1), swarm[1], "drawn")])
            found[len(set(swarm[1])) > 1 and walked(swarm, len(set(swarm[1])))[2] == 0] = True
        self.assertEqual(sorted(found), [False, True])

    def test_a_row_left_out_or_twice_or_in_another_order(self):
        for swarm, paper in TIGHT:
            for turn in range(len(paper)):
                self.stops(swarm, paper[:turn] + paper[turn + 1:])
                self.stops(swarm, paper[:turn + 1] + paper[turn:])
            if len(paper) > 1:
                self.stops(swarm, paper[::-1])
                self.stops(swarm, paper[:-2] + paper[-1:] + paper[-2:-1])

    def test_rows_with_too_few_or_too_many_things(self):
        for swarm, paper in TIGHT:
            for turn in range(len(paper)):
                for change in (
                    lambda row: row[1:], lambda row: row[:-1], lambda row: row + row[-1:], lambda row: row + ("one",),
                    lambda row: row + (0,), lambda row: row[:2] + (0,) + row[2:], lambda row: (), lambda row: row[:2],
                ):
                    self.stops(swarm, with_other(paper, (turn,), change))


class OtherKinds(PaperCase):
    def test_in_each_place(self):
        for swarm, paper in TIGHT:
            for way in ways_into(paper):
                thing = what_lies_at(paper, way)
                for other in KINDS:
                    if not is_same(thing, other):
                        self.stops(swarm, with_other(paper, way, lambda it: other))

    def test_no_numbers_in_the_place_of_numbers(self):
        for swarm, paper in TIGHT:
            for turn in range(len(paper)):
                for way in ((turn, 0), (turn, 1, 0), (turn, 1, len(swarm[1]) - 1)):
                    for thing in NO_NUMBERS:
                        self.stops(swarm, with_other(paper, way, lambda it: thing))

    def test_the_whole(self):
        for swarm in (BECOMES_ONE, RESTING[0], DRAWN[0], (QUARTER, ((0, 1),))):
            for thing in KINDS:
                self.stops(swarm, thing)
                self.stops(swarm, [thing])
                self.stops(swarm, [thing] * 100)
                self.stops(swarm, [((0, 1), swarm[1], 0, 0), thing])
            self.stops(swarm, dict(enumerate(written(swarm, [], "one"))))


class HandedIn(PaperCase):
    def test_what_is_looked_through_stays(self):
        for swarm, paper in SAMPLES:
            kept = copy.deepcopy(paper)
            lets_by(swarm, paper)
            self.assertTrue(is_same(paper, kept))
        for thing in ([[], [[]]], [((0, 1), [[0, 1]], 0, 0)], [[1], {0: [2]}]):
            kept = copy.deepcopy(thing)
            self.stops(RESTING[0], thing)
            self.assertEqual(thing, kept)

    def test_changed_behind_a_call_and_asked_again(self):
        paper = written(RESTING[0], [(2, 0)], "rests")
        self.lets(RESTING[0], paper)
        last = paper.pop()
        self.stops(RESTING[0], paper)
        paper.append(last)
        self.lets(RESTING[0], paper)
        paper[0] = ((0, 1), RESTING[0][1], 1, 0)
        self.stops(RESTING[0], paper)
        self.lets(RESTING[0], paper_of(RESTING[0]))

    def test_asked_again_the_same(self):
        for swarm, paper in SAMPLES[::5]:
            self.assertEqual([lets_by(swarm, paper) for done in range(3)], [True] * 3)


if __name__ == "__main__":
    unittest.main()
