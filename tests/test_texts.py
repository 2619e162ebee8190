"""Point 33, and point 34 as far as it says that what is written is read back."""

import math
import unittest

from glowflock.errors import TooLong
from glowflock.histories import behind
from glowflock.papers import lets_by, paper_of
from glowflock.swarms import glow, moved, swarm_of
from glowflock.texts import read_paper, read_swarm, read_web, show_number, show_paper, show_swarm, show_web
from glowflock.webs import web_of
from helper import (
    FALLING, GREAT, NUMBERS, RULES, Draws, GlowCase, is_same, number_text, paper_text, sample_swarms, sample_webs,
    swarm_text, web_text, written,
)

QUARTER = ((1, 1), (1, 4))
HALF = ((1, 2), (1, 2))


def great_number(draws, top_figures, bottom_figures):
    """A number of just so many figures above and below."""
    while True:
        top, bottom = [
            10 ** (figures - 1) + sum(draws.below(10) * 10 ** place for place in range(figures - 1))
            for figures in (top_figures, bottom_figures)
        ]
        if math.gcd(top, bottom) == 1:
            return top, bottom


class Numbers(GlowCase):
    def test_by_hand(self):
        for number, text in (
            ((0, 1), "0"), ((1, 1), "1"), ((-1, 1), "-1"), ((10, 1), "10"), ((-200, 1), "-200"), ((1, 2), "1/2"),
            ((-1, 2), "-1/2"), ((12, 7), "12/7"), ((-12, 71), "-12/71"), ((1, 10), "1/10"), ((100, 101), "100/101"),
            ((GREAT, 1), "9" * 60), ((-1, 10 ** 60), "-1/1" + "0" * 60),
            ((10 ** 60, GREAT), "1" + "0" * 60 + "/" + "9" * 60),
        ):
            self.assertTrue(is_same(show_number(number), text), number)

    def test_of_samples(self):
        for number in NUMBERS:
            self.assertTrue(is_same(show_number(number), number_text(number)))

    def test_of_many_figures(self):
        draws = Draws(400)
        for top, bottom in ((1, 61), (61, 1), (61, 61), (700, 699), (999, 1200), (4000, 1), (1, 4000), (4000, 4000)):
            one = great_number(draws, top, bottom)
            for number in (one, (-one[0], one[1])):
                text = show_number(number)
                self.assertTrue(is_same(text, number_text(number)))
                figures = [len(part) for part in text.lstrip("-").split("/")]
                self.assertEqual(figures, [top, bottom] if one[1] > 1 else [top])


class Swarms(GlowCase):
    def test_by_hand(self):
        self.assertTrue(is_same(show_swarm((QUARTER, ((0, 1),))), "rule 1 1/4\nworms 0"))
        self.assertTrue(is_same(show_swarm((HALF, ((1, 3), (0, 1), (59, 60)))), "rule 1/2 1/2\nworms 1/3 0 59/60"))
        self.assertTrue(is_same(show_swarm((((4, 1), (1, 1)), ((0, 1),) * 8)), "rule 4 1\nworms 0 0 0 0 0 0 0 0"))

    def test_made_ones_are_read_back_alike(self):
        for swarm in sample_swarms(401, RULES, 2):
            text = show_swarm(swarm)
            self.assertTrue(is_same(text, swarm_text(swarm)))
            self.assertTrue(is_same(read_swarm(text), swarm))

    def test_told_ones_are_written_too(self):
        greater = 0
        for swarm in sample_swarms(402, RULES, 1):
            later = glow(swarm)[2]
            self.assertTrue(is_same(show_swarm(later), swarm_text(later)))
            if max(phase[1] for phase in later[1]) > 60:
                self.refused("NoSwarm", read_swarm, show_swarm(later))
                greater += 1
            else:
                self.assertTrue(is_same(read_swarm(show_swarm(later)), later))
        self.assertGreater(greater, 50)

    def test_bottoms_just_above_sixty(self):
        swarm = swarm_of(QUARTER, [(0, 1), (1, 2)])
        for bottom, is_read in ((59, True), (60, True), (61, False), (62, False)):
            later = moved((QUARTER, ((0, 1), (0, 1))), (1, bottom))
            self.assertEqual(show_swarm(later), f"rule 1 1/4\nworms 1/{bottom} 1/{bottom}")
            if is_read:
                self.assertEqual(read_swarm(show_swarm(later)), later)
            else:
                self.refused("NoSwarm", read_swarm, show_swarm(later))
        self.refused("NoSwarm", read_swarm, show_swarm(moved(swarm, (1, 10 ** 58))))

    def test_of_many_hundred_figures(self):
        longest = 0
        for rule in FALLING:
            later = (rule, ((0, 1), (7, 19), (28, 47), (41, 59)))
            for done in range(10):
                later = behind(later, 40)[1]
            self.assertEqual(show_swarm(later), swarm_text(later))
            longest = max([longest] + [len(word) for word in show_swarm(later).split(" ")])
        self.assertGreater(longest, 600)


class Webs(GlowCase):
    def test_by_hand(self):
        self.assertTrue(is_same(show_web(web_of([1], [[0]], [])), "worm 1 0"))
        web = web_of([2, 3], [[0, 60], [1, 2, 3]], [(1, 0, 4), (0, 1, 0), (0, 1, 2)])
        self.assertTrue(is_same(show_web(web), "worm 2 0 60\nworm 3 1 2 3\ntie 0 1 0\ntie 0 1 2\ntie 1 0 4"))
        web = web_of([1, 1, 1], [[1], [2], [3]], [])
        self.assertTrue(is_same(show_web(web), "worm 1 1\nworm 1 2\nworm 1 3"))

    def test_of_samples_and_read_back_alike(self):
        for web, phases in sample_webs(403, 8):
            for other in (web, (web[0], web[1], ())):
                text = show_web(other)
                self.assertTrue(is_same(text, web_text(other)))
                self.assertTrue(is_same(read_web(text), other))

    def test_the_greatest_one(self):
        ties = [(one, to, delay) for one in range(8) for to in range(8) for delay in range(5) if one != to][:60]
        web = web_of([60] * 8, [[60] * 60] * 8, ties)
        self.assertEqual(show_web(web), web_text(web))
        self.assertTrue(is_same(read_web(show_web(web)), web))


class Papers(GlowCase):
    def test_by_hand(self):
        self.assertTrue(is_same(show_paper([((0, 1), ((0, 1),), "one")]), "0 : 0 : one"))
        self.assertTrue(is_same(show_paper([((0, 1), ((1, 3), (0, 1)), "rests")]), "0 : 1/3 0 : rests"))
        paper = [((0, 1), ((1, 5), (0, 1)), 30, 40), ((-7, 2), ((-1, 2), (9, 1)), 0, 0)]
        paper.append(((12, 1), ((0, 1),) * 2, "drawn"))
        self.assertTrue(is_same(show_paper(paper), "0 : 1/5 0 : 30 40; -7/2 : -1/2 9 : 0 0; 12 : 0 0 : drawn"))
        self.assertTrue(is_same(read_paper(show_paper(paper)), paper))

    def test_told_ones_are_read_back_alike(self):
        words = {}
        rows = {}
        for swarm in sample_swarms(404, RULES, 2):
            try:
                paper = paper_of(swarm)
            except TooLong:
                continue
            text = show_paper(paper)
            self.assertTrue(is_same(text, paper_text(paper)))
            self.assertTrue(is_same(read_paper(text), paper))
            self.assertIs(lets_by(swarm, read_paper(text)), True)
            words[paper[-1][2]] = True
            rows[len(paper)] = True
        self.assertEqual(sorted(words), ["drawn", "one", "rests"])
        self.assertGreater(len(rows), 3)

    def test_written_by_others(self):
        draws = Draws(405)
        for swarm in sample_swarms(406, RULES[::3], 1):
            for count in (0, 1, 3):
                steps = [(draws.below(2), draws.below(12)) for done in range(count)]
                paper = written(swarm, steps, draws.one_of(("one", "rests", "drawn")))
                self.assertEqual(show_paper(paper), paper_text(paper))
                self.assertTrue(is_same(read_paper(show_paper(paper)), paper))

    def test_numbers_of_any_size(self):
        draws = Draws(407)
        for figures in (61, 500, 4000):
            one = great_number(draws, figures, figures)
            other = (-one[1], one[0])
            paper = [(one, (other, one), 30, 0), (other, ((one[0], 1), (1, one[1])), "rests")]
            self.assertEqual(show_paper(paper), paper_text(paper))
            self.assertTrue(is_same(read_paper(show_paper(paper)), paper))

    def test_what_is_told_and_handed_in_is_the_askers_own(self):
        paper = paper_of((QUARTER, ((1, 5), (0, 1))))
        kept = list(paper)
        text = show_paper(paper)
        self.assertEqual(paper, kept)
        told = read_paper(text)
        told.clear()
        self.assertEqual(read_paper(text), kept)
        paper.clear()
        self.assertEqual(text, paper_text(kept))


if __name__ == "__main__":
    unittest.main()
