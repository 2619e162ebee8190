"""Points 1 to 3 over the whole program, and the interface: its names and arguments."""

import copy
import importlib
import inspect
import unittest
from fractions import Fraction

from glowflock.changes import as_web, exchanged, exchanged_stand, exchanged_web
from glowflock.desk import Desk
from glowflock.histories import behind, history
from glowflock.numbers import is_number, less, minus, number, over, plus, times
from glowflock.pairs import stretch
from glowflock.papers import fate, lets_by, paper_of
from glowflock.rings import is_one, is_ring, ring
from glowflock.rounds import is_free, laid, round_behind, round_map, round_time, tops
from glowflock.rules import bend, pushed, pushes, rule_of
from glowflock.still import free_rounds, rounds_behind, rounds_time, still
from glowflock.swarms import flocks, glow, moved, swarm_of
from glowflock.texts import read_paper, read_swarm, read_web, show_number, show_paper, show_swarm, show_web
from glowflock.ticks import run, stand_behind, tick
from glowflock.webs import stand_of, web_of
from helper import (
    FALLING, GREAT, RULES, Draws, GlowCase, as_fraction, as_number, is_same, laid_of, round_glow_by_glow,
    sample_swarms, swarm_text, walked,
)

INTERFACE = """
numbers: is_number(thing) number(top, bottom) plus(one, other) minus(one, other) times(one, other) over(one, other)
numbers: less(one, other)
rules: rule_of(a, b) bend(rule) pushes(rule, many) pushed(rule, x, many)
swarms: swarm_of(rule, phases) flocks(swarm) glow(swarm) moved(swarm, c)
histories: history(swarm, many) behind(swarm, many)
rounds: laid(swarm) round_behind(rule, sizes, places) round_time(rule, sizes, places) tops(rule, sizes, places)
rounds: is_free(rule, sizes, places) round_map(rule, sizes)
still: still(rule, sizes) rounds_behind(rule, sizes, places, many) rounds_time(rule, sizes, places, many)
still: free_rounds(rule, sizes, places)
papers: lets_by(swarm, paper) paper_of(swarm) fate(swarm)
pairs: stretch(rule, sizes, many)
webs: web_of(rounds, ups, ties) stand_of(web, phases)
ticks: tick(web, stand) run(web, stand, many) stand_behind(web, stand, many)
rings: ring(web, stand, most) is_ring(web, stand, told) is_one(web, told)
changes: exchanged(swarm, order) exchanged_web(web, order) exchanged_stand(stand, order) as_web(swarm)
texts: show_number(number) show_swarm(swarm) show_web(web) show_paper(paper)
texts: read_swarm(text) read_web(text) read_paper(text)
desk: Desk(text)
"""
QUARTER = ((1, 1), (1, 4))
HALF = ((1, 2), (1, 2))
SWARM = (QUARTER, ((1, 3), (0, 1), (0, 1)))
DRAWN = (HALF, ((1, 2), (0, 1)))
WEB = web_of([3, 6], [[0] * 3, [2] * 6], [(0, 1, 1), (1, 0, 0)])
STAND = stand_of(WEB, [2, 2])


def calls():
    """Each function of the interface with things that it is asked of, all made anew."""
    sizes, places = (1, 2), ((1, 3),)
    paper = paper_of(SWARM)
    told = ring(WEB, STAND, 3000)
    return [
        (is_number, [1, 2]), (is_number, (1, 2)), (number, 6, -4), (plus, (1, 2), (1, 3)), (minus, (1, 2), (1, 3)),
        (times, (1, 2), (1, 3)), (over, (1, 2), (1, 3)), (less, (1, 2), (1, 3)),
        (rule_of, (1, 1), (1, 4)), (bend, QUARTER), (pushes, HALF, 3), (pushed, HALF, (1, 7), 3),
        (swarm_of, QUARTER, [(1, 3), (0, 1), (0, 1)]), (swarm_of, QUARTER, ((1, 3),)), (flocks, SWARM), (glow, SWARM),
        (moved, SWARM, (1, 7)), (history, SWARM, 9), (behind, SWARM, 9), (behind, SWARM, 0),
        (laid, SWARM), (round_behind, QUARTER, sizes, places), (round_time, QUARTER, sizes, places),
        (tops, QUARTER, sizes, places), (is_free, QUARTER, sizes, places), (round_map, QUARTER, sizes),
        (still, HALF, sizes), (rounds_behind, HALF, sizes, places, 7), (rounds_time, HALF, sizes, places, 7),
        (free_rounds, QUARTER, sizes, places), (lets_by, SWARM, paper), (lets_by, SWARM, [[], [1, [2]], "one"]),
        (paper_of, SWARM), (paper_of, DRAWN), (fate, SWARM), (stretch, QUARTER, sizes, 2),
        (web_of, [3, 6], [[0] * 3, [2] * 6], [[1, 0, 0], [0, 1, 1]]), (stand_of, WEB, [2, 2]), (tick, WEB, STAND),
        (run, WEB, STAND, 40), (stand_behind, WEB, STAND, 40), (ring, WEB, STAND, 3000), (is_ring, WEB, STAND, told),
        (is_one, WEB, told), (exchanged, SWARM, [2, 0, 1]), (exchanged_web, WEB, [1, 0]),
        (exchanged_stand, STAND, [1, 0]), (as_web, SWARM), (show_number, (-1, 2)), (show_swarm, SWARM), (show_web, WEB),
        (show_paper, paper), (read_swarm, show_swarm(SWARM)), (read_web, show_web(WEB)),
        (read_paper, show_paper(paper)),
    ]


def spoil(thing):
    """Changes each list in it, however deep."""
    if isinstance(thing, (list, tuple)):
        for part in thing:
            spoil(part)
    if isinstance(thing, list):
        thing.reverse()
        thing.append("spoilt")
        thing[0] = None


class Interface(unittest.TestCase):
    def test_names_and_arguments(self):
        for line in INTERFACE.strip().split("\n"):
            module, said = line.split(": ")
            for form in said.replace(") ", ")\n").split("\n"):
                name, arguments = form[:-1].split("(")
                thing = getattr(importlib.import_module("glowflock." + module), name)
                parameters = inspect.signature(thing).parameters.values()
                self.assertEqual([parameter.name for parameter in parameters], arguments.split(", "), name)
                self.assertEqual({parameter.default for parameter in parameters}, {inspect.Parameter.empty}, name)

    def test_the_desk(self):
        self.assertEqual(list(inspect.signature(Desk.say).parameters), ["self", "row"])
        self.assertEqual(Desk(text="rule 1 1\nworms 0").say(row="hour"), "0")

    def test_each_function_is_called_below(self):
        called = {call[0].__name__ for call in calls()}
        for line in INTERFACE.strip().split("\n"):
            for form in line.split(": ")[1].replace(") ", ")\n").split("\n"):
                self.assertIn(form.split("(")[0], called | {"Desk"})


class TheAskersOwn(GlowCase):
    def test_nothing_that_is_handed_in_is_changed(self):
        for call, *things in calls():
            kept = copy.deepcopy(things)
            call(*things)
            self.assertTrue(is_same(things, kept), call)

    def test_what_is_told_may_be_changed(self):
        for turn, (call, *things) in enumerate(calls()):
            told = call(*things)
            kept = copy.deepcopy(told)
            spoil(told)
            self.assertTrue(is_same(call(*things), kept), call)
            later = calls()[turn]
            self.assertTrue(is_same(later[0](*later[1:]), kept), call)

    def test_what_was_handed_in_may_be_changed(self):
        for turn in range(len(calls())):
            # Made anew for each, as some have a list in common.
            call, *things = calls()[turn]
            told = call(*things)
            kept = copy.deepcopy(told)
            spoil(things)
            self.assertTrue(is_same(told, kept), call)
            later = calls()[turn]
            self.assertTrue(is_same(later[0](*later[1:]), kept), call)

    def test_nothing_asked_later_changes_what_was_told(self):
        told = [call(*things) for call, *things in calls()]
        kept = copy.deepcopy(told)
        for call, *things in reversed(calls()):
            call(*things)
        self.assertTrue(is_same(told, kept))

    def test_two_told_alike_are_apart(self):
        for call, *things in calls():
            one = call(*things)
            other = call(*things)
            kept = copy.deepcopy(other)
            spoil(one)
            self.assertTrue(is_same(other, kept), call)

    def test_a_desk_keeps_its_own(self):
        desk = Desk(swarm_text(SWARM))
        rows = ["hour", "swarm", "flocks", "fate", "free", "still", "paper"]
        first = [desk.say(row) for row in rows]
        for told in (paper_of(SWARM), flocks(SWARM), history(SWARM, 5), read_paper(desk.say("paper"))):
            spoil(told)
            self.assertEqual([desk.say(row) for row in rows], first)


class ManyFigures(GlowCase):
    """What is told is handed in again, with as many figures as it has."""

    def test_swarms(self):
        longest = 0
        for rule in FALLING:
            swarm = (rule, ((0, 1), (7, 19), (28, 47), (41, 59)))
            later = swarm
            for done in range(3):
                later = behind(later, 40)[1]
            self.assertEqual(later, walked(swarm, 120)[1])
            longest = max([longest] + [len(str(phase[1])) for phase in later[1]])
            self.assertEqual(behind(later, 3), walked(later, 3)[:2])
            self.assertEqual(exchanged(later, [3, 2, 1, 0])[1], later[1][::-1])
            self.assertEqual(show_swarm(later), swarm_text(later))
            self.assertTrue(all(is_number(phase) for phase in later[1]))
            self.refused("NoWeb", as_web, later)
            sizes, places = laid(later)
            self.assertEqual((sizes, places), laid_of(later))
            wanted = round_glow_by_glow(rule, sizes, places)
            self.assertEqual(round_behind(rule, sizes, places), wanted[0])
            self.assertEqual(round_time(rule, sizes, places), wanted[1])
            self.assertEqual(tops(rule, sizes, places), wanted[2])
            paper = paper_of(later)
            self.assertIs(lets_by(later, paper), True)
            self.assertEqual(read_paper(show_paper(paper)), paper)
            self.assertEqual(fate(later), (paper[-1][2], len(set(paper[-1][1]))))
        self.assertGreater(longest, 100)

    def test_moved_by_what_is_told(self):
        swarm = (HALF, ((0, 1), (7, 19), (28, 47)))
        wait = glow(behind(swarm, 40)[1])[0]
        less_than_wait = times(wait, (1, 2))
        later = behind(swarm, 40)[1]
        told = moved(later, less_than_wait)
        self.assertEqual(
            [as_fraction(phase) for phase in told[1]],
            [as_fraction(phase) + as_fraction(less_than_wait) for phase in later[1]],
        )
        self.refused("NoSwarm", moved, later, wait)
        # Moved or not, the next glow is the same one but for the wait.
        self.assertEqual(glow(told)[1:], glow(later)[1:])
        self.assertEqual(plus(glow(told)[0], less_than_wait), wait)

    def test_numbers(self):
        draws = Draws(600)
        one = (3, 7)
        for done in range(12):
            other = number(draws.below(10 ** 9) - 10 ** 8, 1 + draws.below(10 ** 9))
            one = plus(times(one, one), other)
        wanted = as_fraction(one)
        self.assertGreater(one[1].bit_length(), 4300 * 4)
        one = over(one, (GREAT, 1))
        self.assertEqual(one, as_number(wanted / GREAT))
        self.assertEqual(minus(one, one), (0, 1))
        self.assertIs(less(one, plus(one, (1, GREAT))), True)
        self.assertIs(is_number(one), True)


class MovedAlike(GlowCase):
    def test_nothing_but_the_hours_changes(self):
        draws = Draws(601)
        for swarm in sample_swarms(602, RULES, 1):
            room = 1 - max(as_fraction(phase) for phase in swarm[1])
            c = as_number(room * Fraction(draws.below(10), 10))
            other = moved(swarm, c)
            rows = [(minus(hour, c), waves, phases) for hour, waves, phases in history(swarm, 12)]
            self.assertEqual(history(other, 12), rows)
            self.assertEqual([flock[1] for flock in flocks(other)], [flock[1] for flock in flocks(swarm)])
            self.assertEqual(fate(other), fate(swarm))


class RefusalsDueAtOnce(GlowCase):
    def test_the_one_told_first_goes_first(self):
        for name, call, *things in (
            ("NoRule", swarm_of, None, None), ("NoRule", swarm_of, (5, 5), [(2, 1)]),
            ("NoSwarm", swarm_of, QUARTER, None),
            ("NoText", read_swarm, "rule 5 5\nworms 2 "), ("NoRule", read_swarm, "rule 5 5\nworms 2"),
            ("NoSwarm", read_swarm, "rule 1 1\nworms 2"), ("NoText", read_web, "worm 61\ntie 0 1 0\ntie 0 1 0"),
            ("NoWeb", read_web, "worm 61\ntie 0 1 0\ntie 0 2 0"), ("NoText", Desk, "rule 5 5\nworms"),
            ("NoRule", Desk, "rule 5 5\nworms 1"), ("NoSwarm", Desk, "rule 1 1\nworms 1"),
            ("NoRow", Desk("rule 1 1\nworms 0 0").say, "exchange 0 0 0"),
            ("NoRow", Desk("rule 1 1\nworms 0 0").say, "exchange 0 "),
            ("NoSwarm", Desk("rule 1 1\nworms 0 0").say, "exchange 0 0"),
            ("NoSwarm", Desk("rule 1 1\nworms 0 0").say, "exchange 0 9"),
            ("NoRow", Desk("rule 1 1\nworms 0 0").say, "move 9 "),
            ("NoSwarm", Desk("rule 1 1\nworms 0 0").say, "move 9"),
            ("NoStand", Desk("rule 9/8 1/10\nworms 35/59 1/59").say, "free"),
            ("TooLong", Desk("rule 9/8 1/10\nworms 34/59 0").say, "free"),
        ):
            self.refused(name, call, *things)


if __name__ == "__main__":
    unittest.main()
