"""Point 35, and points 2 and 3 as far as they speak of the desk."""

import unittest
from fractions import Fraction
from itertools import product

from glowflock.desk import Desk
from glowflock.errors import GlowError
from glowflock.papers import fate, lets_by, paper_of
from glowflock.rounds import laid
from glowflock.still import free_rounds, still
from glowflock.swarms import swarm_of
from helper import (
    FALLING, KINDS, RULES, Draws, GlowCase, as_fraction, as_number, glow_push_by_push, is_same, near_texts, number_text,
    paper_text, sample_swarms, swarm_laid, swarm_text, texts_of, walked, written,
)

QUARTER = ((1, 1), (1, 4))
HALF = ((1, 2), (1, 2))
THREE = "rule 1 1/4\nworms 1/3 0 0"
# So near its still place that its rounds are free for too long; its first glow leads it there.
SLOW = "rule 9/8 1/10\nworms 34/59 0"
ASKS = ("hour", "swarm", "flocks", "fate", "free", "still", "paper")
ALONE = ASKS + ("glow", "back")


def told_at(desk):
    """All that a desk tells; a refusal by its class."""
    told = []
    for row in ASKS:
        try:
            told.append(desk.say(row))
        except GlowError as refusal:
            told.append(refusal.__class__.__name__)
    return told


class Model:
    """A desk as the document's words go, with glows done push by push."""

    def __init__(self, swarm):
        self.swarm = swarm
        self.hour = Fraction(0)
        self.past = []

    def change(self, wait, swarm):
        self.past.append((self.hour, self.swarm))
        self.hour += as_fraction(wait)
        self.swarm = swarm

    def glow(self):
        wait, waves, swarm = glow_push_by_push(self.swarm)
        self.change(wait, swarm)
        return number_text(wait) + " " + " / ".join(",".join(map(str, wave)) for wave in waves)

    def glows(self, many):
        wait, swarm, joins = walked(self.swarm, many)
        self.change(wait, swarm)
        return "ok"

    def move(self, c):
        phases = [as_fraction(phase) + as_fraction(c) for phase in self.swarm[1]]
        if as_fraction(c) < 0 or max(phases) >= 1:
            return "NoSwarm"
        self.change((0, 1), (self.swarm[0], tuple(as_number(phase) for phase in phases)))
        return "ok"

    def exchange(self, order):
        if sorted(order) != list(range(len(self.swarm[1]))):
            return "NoSwarm"
        phases = {to: phase for to, phase in zip(order, self.swarm[1])}
        self.change((0, 1), (self.swarm[0], tuple(phases[worm] for worm in range(len(order)))))
        return "ok"

    def back(self):
        if not self.past:
            return "NoBack"
        self.hour, self.swarm = self.past.pop()
        return "ok"

    def flocks(self):
        phases = [as_fraction(phase) for phase in self.swarm[1]]
        falling = sorted(set(phases), reverse=True)
        return " ".join(",".join(str(worm) for worm, own in enumerate(phases) if own == phase) for phase in falling)

    def ask(self, row):
        if row == "hour":
            return str(self.hour)
        if row == "swarm":
            return swarm_text(self.swarm).replace("\n", "; ")
        return self.flocks()


def drawn_row(draws, model):
    """A row, what the model answers to it, as a pair."""
    kind = draws.below(10)
    worms = len(model.swarm[1])
    if kind == 0:
        many = draws.below(4)
        return f"glows {many}", model.glows(many)
    if kind == 1:
        c = as_number(Fraction(draws.below(30) - 3, 1 + draws.below(60)))
        return "move " + number_text(c), model.move(c)
    if kind == 2:
        order = draws.shuffled(range(worms))
        if draws.below(4) == 0:
            order[0] = (order[-1], worms, 9)[draws.below(3)]
        return "exchange " + " ".join(map(str, order)), model.exchange(order)
    if kind in (3, 4):
        return "back", model.back()
    if kind in (5, 6):
        return "glow", model.glow()
    row = ASKS[kind - 7]
    return row, model.ask(row)


class DeskCase(GlowCase):
    def answers(self, desk, row, wanted):
        told = desk.say(row)
        self.assertTrue(is_same(told, wanted), (row, told))

    def stays(self, name, desk, row):
        """The row is refused so, and changes nothing."""
        kept = [desk.say("hour"), desk.say("swarm"), desk.say("flocks")]
        self.refused(name, desk.say, row)
        self.assertEqual([desk.say("hour"), desk.say("swarm"), desk.say("flocks")], kept)


class MadeAndAsked(DeskCase):
    def test_made_of_a_text_as_it_is_read(self):
        self.answers(Desk(THREE), "swarm", "rule 1 1/4; worms 1/3 0 0")
        for thing in [thing for thing in KINDS if not isinstance(thing, str)] + [(QUARTER, ((0, 1),)), THREE.encode()]:
            self.refused("NoText", Desk, thing)
        for text in ("", "rule 1 1/4; worms 1/3 0 0", THREE + "\n", "rule 1 2/8\nworms 0", "rule 5 0\nworms x"):
            self.refused("NoText", Desk, text)
        self.refused("NoRule", Desk, "rule 5 0\nworms 1")
        self.refused("NoSwarm", Desk, "rule 1 1/4\nworms 1")
        self.refused("NoSwarm", Desk, "rule 1 1/4\nworms 1/61")

    def test_each_row_that_asks_by_hand(self):
        desk = Desk(THREE)
        for row, wanted in (
            ("hour", "0"), ("swarm", "rule 1 1/4; worms 1/3 0 0"), ("flocks", "0 1,2"), ("fate", "one 1"),
            ("free", "2"),
            ("still", "none"), ("paper", paper_text(paper_of(swarm_of(QUARTER, [(1, 3), (0, 1), (0, 1)])))),
            ("look 0 : 1/3 0 0 : 0 7; 9/4 : 0 0 0 : one", "no"), ("look 0 : 1/3 0 0 : 2 2; 9/4 : 0 0 0 : one", "yes"),
            ("look 0 : 1/3 0 0 : 0 6; 9/4 : 0 0 0 : one", "yes"),
        ):
            self.answers(desk, row, wanted)
            self.answers(desk, row, wanted)

    def test_behind_several_changes(self):
        desk = Desk(THREE)
        for row, wanted in (
            ("glow", "2/3 0"), ("hour", "2/3"), ("swarm", "rule 1 1/4; worms 0 11/12 11/12"), ("flocks", "1,2 0"),
            ("glow", "1/12 1,2"), ("hour", "3/4"), ("swarm", "rule 1 1/4; worms 7/12 0 0"), ("free", "1"),
            ("exchange 2 0 1", "ok"), ("swarm", "rule 1 1/4; worms 0 0 7/12"), ("flocks", "2 0,1"), ("hour", "3/4"),
            ("move 1/12", "ok"), ("swarm", "rule 1 1/4; worms 1/12 1/12 2/3"), ("hour", "3/4"),
            ("glow", "1/3 2"), ("hour", "13/12"), ("swarm", "rule 1 1/4; worms 2/3 2/3 0"),
            ("glows 2", "ok"), ("hour", "19/12"), ("swarm", "rule 1 1/4; worms 5/12 5/12 0"),
            ("glow", "7/12 0,1 / 2"), ("hour", "13/6"), ("swarm", "rule 1 1/4; worms 0 0 0"), ("flocks", "0,1,2"),
            ("fate", "one 1"), ("free", "ever"), ("still", "none"), ("look 0 : 0 0 0 : one", "yes"),
            ("glow", "1 0,1,2"), ("hour", "19/6"),
        ):
            self.answers(desk, row, wanted)

    def test_waves(self):
        self.answers(Desk("rule 1 1/3\nworms 2/3 1/3 2/3"), "glow", "1/3 0,2 / 1")
        self.answers(Desk("rule 1 1/12\nworms 1/2 11/24 3/8 7/24"), "glow", "1/2 0 / 1 / 2 / 3")
        self.answers(Desk("rule 1 1/12\nworms 1/2"), "glow", "1/2 0")
        self.answers(Desk("rule 1 1\nworms 0 1/2 1/2 0 0 1/2 0 1/4"), "glow", "1/2 1,2,5 / 0,3,4,6,7")

    def test_still_places(self):
        self.answers(Desk("rule 2 0\nworms 0 1/2"), "still", "2/3")
        self.answers(Desk("rule 1/2 1/2\nworms 0 2/3 1/3"), "still", texts_of(still(HALF, (1, 1, 1))))
        # None there are, and none to tell.
        self.answers(Desk("rule 1 0\nworms 0 1/2"), "still", "none")
        self.answers(Desk("rule 2 0\nworms 0 0"), "still", "none")
        self.answers(Desk("rule 1/2 1/2\nworms 0"), "still", "none")
        self.answers(Desk("rule 1 1/2\nworms 0"), "still", "none")

    def test_free_rounds(self):
        self.answers(Desk("rule 2 0\nworms 0 2/3"), "free", "ever")
        self.answers(Desk("rule 2 0\nworms 0 3/5"), "free", str(free_rounds(((2, 1), (0, 1)), (1, 1), ((3, 5),))))
        self.answers(Desk("rule 2 0\nworms 0 1/10"), "free", "0")
        self.answers(Desk("rule 1 1/4\nworms 0 1/2"), "free", "ever")
        for rule in RULES:
            self.answers(Desk(swarm_text((rule, ((0, 1),) * 3))), "free", "ever")

    def test_not_laid(self):
        for text in ("rule 2 0\nworms 1/2", "rule 1/2 1/2\nworms 1/3 1/4 1/5", "rule 1 0\nworms 1/60 1/60"):
            desk = Desk(text)
            for row in ("free", "still"):
                self.stays("NoStand", desk, row)
            desk.say("fate")
            desk.say("glow")
            desk.say("free")
            desk.say("still")
            desk.say("back")
            for row in ("free", "still"):
                self.stays("NoStand", desk, row)

    def test_no_stand_goes_ahead_of_too_long(self):
        desk = Desk(SLOW)
        self.stays("TooLong", desk, "free")
        desk.say("move 1/59")
        self.stays("NoStand", desk, "free")

    def test_too_long(self):
        desk = Desk(SLOW)
        for done in range(2):
            for row in ("fate", "paper", "free"):
                self.stays("TooLong", desk, row)
            self.answers(desk, "still", texts_of(still(((9, 8), (1, 10)), (1, 1))))
            desk.say("glow")

    def test_fates_and_papers(self):
        words = {}
        for swarm in sample_swarms(500, RULES[::2], 1):
            desk = Desk(swarm_text(swarm))
            word, count = fate(swarm)
            self.answers(desk, "fate", f"{word} {count}")
            text = desk.say("paper")
            self.assertEqual(text, paper_text(paper_of(swarm)))
            self.answers(desk, "look " + text, "yes")
            words[word] = True
        self.assertEqual(sorted(words), ["drawn", "one", "rests"])

    def test_places_of_samples(self):
        draws = Draws(501)
        for rule in RULES:
            for sizes in ((1, 1), (2, 1), (1, 2, 1), (1, 1, 1, 1)):
                swarm = swarm_laid(rule, sizes, draws.falling_places(sizes), draws)
                desk = Desk(swarm_text(swarm))
                sizes, places = laid(swarm)
                rest = still(rule, sizes)
                self.answers(desk, "still", "none" if rest is None else texts_of(rest))
                try:
                    count = free_rounds(rule, sizes, places)
                except GlowError:
                    self.stays("TooLong", desk, "free")
                    continue
                self.answers(desk, "free", "ever" if count is None else str(count))


class Looked(DeskCase):
    def test_for_the_swarm_as_it_is(self):
        desk = Desk(THREE)
        first = desk.say("paper")
        self.answers(desk, "look " + first, "yes")
        desk.say("glow")
        self.answers(desk, "look " + first, "no")
        # The hour of a paper begins with 0, whatever the desk's own is.
        second = desk.say("paper")
        self.assertTrue(second.startswith("0 : 0 11/12 11/12 : "), second)
        self.answers(desk, "look " + second, "yes")
        self.answers(desk, "look 2/3" + second[1:], "no")
        desk.say("back")
        self.answers(desk, "look " + second, "no")
        self.answers(desk, "look " + first, "yes")

    def test_papers_of_others(self):
        draws = Draws(502)
        seen = {}
        for swarm in sample_swarms(503, FALLING, 1):
            desk = Desk(swarm_text(swarm))
            for word in ("one", "rests", "drawn"):
                paper = written(swarm, [(0, draws.below(3)), (0, 20)], word)
                wanted = "yes" if lets_by(swarm, paper) else "no"
                self.answers(desk, "look " + paper_text(paper), wanted)
                seen[wanted] = True
        self.assertEqual(sorted(seen), ["no", "yes"])

    def test_papers_that_are_right_but_for_one_thing(self):
        desk = Desk("rule 1 1/4\nworms 1/3 0")
        self.answers(desk, "look 0 : 1/3 0 : rests", "yes")
        for text in (
            "0 : 1/3 0 : one", "0 : 1/3 0 : drawn", "0 : 0 1/3 : rests", "1 : 1/3 0 : rests", "0 : 1/3 : rests",
            "0 : 1/3 0 0 : rests", "0 : 1/4 0 : rests", "0 : 0 0 : one", "0 : 1/3 0 : 0 0; 1 : 1/3 0 : rests",
            "0 : -1/3 0 : rests", "0 : 100 100 : one",
        ):
            self.answers(desk, "look " + text, "no")

    def test_what_is_no_paper(self):
        desk = Desk(THREE)
        for text in (
            "", " ", "x", "0", "0 : 1/3 0 0", "0 : 1/3 0 0 : One", "0 : 1/3 0 0 : one ", " 0 : 1/3 0 0 : one",
            "0 : 2/6 0 0 : one", "0 : 1/3 0 0 : 31 0; 0 : 0 0 0 : one", "0 : 1/3 0 0 : 0 41; 0 : 0 0 0 : one",
            "0 : 1/3 0 0 : one\n", "0 : 1/3 0 0 : one; 0 : 1/3 0 0 : one", THREE,
        ):
            self.stays("NoText", desk, "look " + text)
        self.stays("NoText", desk, "look  0 : 1/3 0 0 : one")

    def test_without_the_blank(self):
        desk = Desk(THREE)
        for row in ("look", "look0 : 1/3 0 0 : one", "look\n", "look:", "look\t0", "looks ", "Look ", " look "):
            self.stays("NoRow", desk, row)


class TakenBack(DeskCase):
    def test_nothing_to_take_back(self):
        desk = Desk(THREE)
        for done in range(3):
            self.stays("NoBack", desk, "back")
        for row in ASKS:
            desk.say(row)
        desk.say("look 0 : 0 : one")
        self.stays("NoBack", desk, "back")

    def test_behind_each_kind_of_change(self):
        for row in ("glow", "glows 3", "glows 40", "move 1/7", "exchange 1 2 0"):
            desk = Desk(THREE)
            first = told_at(desk)
            desk.say(row)
            self.assertNotEqual(told_at(desk), first)
            self.answers(desk, "back", "ok")
            self.assertEqual(told_at(desk), first)
            self.stays("NoBack", desk, "back")

    def test_behind_one_that_changed_nothing(self):
        for row in ("glows 0", "move 0", "exchange 0 1 2", "exchange 0 2 1"):
            desk = Desk(THREE)
            first = told_at(desk)
            self.answers(desk, row, "ok")
            self.assertEqual(told_at(desk), first)
            self.answers(desk, "back", "ok")
            self.assertEqual(told_at(desk), first)
            self.stays("NoBack", desk, "back")
            desk.say("glow")
            behind = told_at(desk)
            desk.say(row)
            desk.say("back")
            self.assertEqual(told_at(desk), behind)
            desk.say("back")
            self.assertEqual(told_at(desk), first)

    def test_till_nothing_is_left(self):
        desk = Desk(THREE)
        stands = []
        rows = ("glow", "exchange 2 1 0", "glows 2", "move 1/60", "glow", "move 0", "glows 0", "glow", "glows 7")
        for row in rows:
            stands.append(told_at(desk))
            desk.say(row)
        for wanted in reversed(stands):
            self.answers(desk, "back", "ok")
            self.assertEqual(told_at(desk), wanted)
        self.stays("NoBack", desk, "back")
        desk.say("glow")
        self.answers(desk, "back", "ok")
        self.stays("NoBack", desk, "back")

    def test_what_is_refused_is_no_change(self):
        desk = Desk(THREE)
        first = told_at(desk)
        desk.say("glow")
        for name, row in (
            ("NoSwarm", "move 1"), ("NoSwarm", "exchange 0 0 0"), ("NoSwarm", "exchange 0 1 9"), ("NoRow", "glows 41"),
            ("NoText", "look x"), ("NoRow", "glow "),
        ):
            self.stays(name, desk, row)
        self.answers(desk, "back", "ok")
        self.assertEqual(told_at(desk), first)
        self.stays("NoBack", desk, "back")

    def test_back_is_no_change_itself(self):
        desk = Desk(THREE)
        desk.say("glow")
        desk.say("move 1/60")
        desk.say("back")
        desk.say("back")
        self.stays("NoBack", desk, "back")


class Refused(DeskCase):
    def test_what_is_no_text(self):
        desk = Desk(THREE)
        for thing in KINDS + (b"glow", ["glow"], ("glow",), ["glows", "3"], {"glow": 1}):
            self.stays("NoRow", desk, thing)

    def test_other_words(self):
        desk = Desk(THREE)
        for row in (
            "", " ", "  ", "x", "Glow", "GLOW", "glo", "gloww", "Hour", "hours", "swarms", "flock", "fates", "frees",
            "stills", "papers", "backs", "moves", "exchanges", "undo", "help", "glow\n", "\nglow", "glow\t", "hour\r",
            "0", "rule 1 1",
            "worms 0", THREE,
        ):
            self.stays("NoRow", desk, row)

    def test_too_many_words(self):
        desk = Desk(THREE)
        for row in ALONE:
            for more in (" ", "  ", " 1", " x", " " + row, "\n", " 1 1"):
                self.stays("NoRow", desk, row + more)
            self.stays("NoRow", desk, " " + row)
        for row in ("glows 3 3", "glows 3 ", "glows  3", " glows 3", "move 0 0", "move 0 ", "move  0", " move 0"):
            self.stays("NoRow", desk, row)
        for row in (
            "exchange 0 1 2 2", "exchange 0 1 2 3", "exchange 0 1 2 ", "exchange  0 1 2", "exchange 0 1  2",
            " exchange 0 1 2",
        ):
            self.stays("NoRow", desk, row)

    def test_too_few_words(self):
        desk = Desk(THREE)
        for row in (
            "glows", "glows ", "move", "move ", "exchange", "exchange ", "exchange 0", "exchange 0 1",
            "exchange 0 1 ",
        ):
            self.stays("NoRow", desk, row)

    def test_counts(self):
        for many in range(0, 120):
            desk = Desk("rule 1 0\nworms 0")
            if many <= 40:
                self.answers(desk, f"glows {many}", "ok")
                self.answers(desk, "hour", str(many))
            else:
                self.stays("NoRow", desk, f"glows {many}")
        desk = Desk(THREE)
        for word in (
            "-1", "+1", "00", "01", "040", "1/2", "2/1", "1.0", "x", "4_0", "\u0663", "-0", "1\n", "9" * 60, "1e1",
        ):
            self.stays("NoRow", desk, "glows " + word)

    def test_moves_not_written_as_told(self):
        desk = Desk(THREE)
        for word in (
            "+1/7", "-0", "00", "01/7", "1/07", "2/14", "0/7", "1/1", "0/1", "1/0", "1/-7", "1/", "/7", "1/7/2",
            "0.1", "x",
            "1000000", "-1000000", "1/1000000", "1/1234567", "1234567/1234568", "-1/1234567", "\u0661/7", "1/7\n",
            "9" * 60, "-",
        ):
            self.stays("NoRow", desk, "move " + word)

    def test_moves_of_six_figures(self):
        desk = Desk(THREE)
        for word in ("1/999999", "100000/999999", "1/100000", "123456/654323", "0"):
            self.answers(desk, "move " + word, "ok")
            self.answers(desk, "hour", "0")
            desk.say("back")
        for word in ("999999", "-999999", "-1/999999", "999999/100000", "1", "2/3", "-1", "666667/999999", "5/7"):
            self.stays("NoSwarm", desk, "move " + word)
        self.answers(desk, "move 666665/999999", "ok")
        self.stays("NoSwarm", desk, "move 2/999999")

    def test_worms_not_written_as_told(self):
        for worms in range(1, 9):
            desk = Desk("rule 1 0\nworms" + " 0" * worms)
            right = [str(worm) for worm in range(worms)]
            self.answers(desk, "exchange " + " ".join(right), "ok")
            for word in ("10", "11", "-1", "-0", "+0", "00", "01", "09", "x", "1/2", "", "\u0660", "0\n", "0,1"):
                self.stays("NoRow", desk, "exchange " + " ".join([word] + right[1:]))
                self.stays("NoRow", desk, "exchange " + " ".join(right[:-1] + [word]))
                # Of two refusals the first one goes first: beside a number twice, and beside one of no worm.
                if worms > 1:
                    self.stays("NoRow", desk, "exchange" + " 0" * (worms - 1) + " " + word)
                    self.stays("NoRow", desk, "exchange" + " 9" * (worms - 1) + " " + word)

    def test_other_counts_of_words_than_worms(self):
        for worms in range(1, 9):
            desk = Desk("rule 1 0\nworms" + " 0" * worms)
            right = [str(worm) for worm in range(worms)]
            for count in [count for count in range(12) if count != worms]:
                for figure in ("0", "9"):
                    self.stays("NoRow", desk, " ".join(["exchange"] + [figure] * count))
            for more in ("0", "8", "9", str(worms)):
                self.stays("NoRow", desk, "exchange " + " ".join(right + [more]))

    def test_figures_that_are_no_order_of_the_worms(self):
        for worms in range(1, 9):
            desk = Desk("rule 1 1/12\nworms" + "".join([f" {worm}/13" for worm in range(1, worms + 1)]))
            desk.say("glow")
            right = [str(worm) for worm in range(worms)]
            for number in range(worms, 10):
                for place in range(worms):
                    words = right[:place] + [str(number)] + right[place + 1:]
                    self.stays("NoSwarm", desk, "exchange " + " ".join(words))
                self.stays("NoSwarm", desk, "exchange" + f" {number}" * worms)
            self.stays("NoSwarm", desk, "exchange " + " ".join([str(worm + 1) for worm in range(worms)]))
            if worms > 1:
                self.stays("NoSwarm", desk, "exchange" + " 0" * worms)
                self.stays("NoSwarm", desk, "exchange " + " ".join(right[:-1] + right[:1]))
                self.stays("NoSwarm", desk, "exchange" + " 0" * (worms - 1) + " 9")
            # None of them is a change: the glow is the one to be taken back.
            self.answers(desk, "back", "ok")
            self.stays("NoBack", desk, "back")

    def test_all_rows_of_figures_for_few_worms(self):
        for worms in (1, 2, 3):
            desk = Desk("rule 1 1/12\nworms " + " ".join(["1/5", "0", "3/4"][:worms]))
            for figures in product("0123456789", repeat=worms):
                row = "exchange " + " ".join(figures)
                if sorted(figures) == list("012")[:worms]:
                    self.answers(desk, row, "ok")
                    desk.say("back")
                else:
                    self.stays("NoSwarm", desk, row)

    def test_near_rows(self):
        for first in ("glow", "hour", "back", "glows 13", "move 1/12", "exchange 1 0 2"):
            for row in near_texts(first, " 01249/-x"):
                desk = Desk(THREE)
                head, blank, tail = row.partition(" ")
                known = row in ALONE
                if head == "glows":
                    known = tail.isdigit() and str(int(tail)) == tail and int(tail) <= 40
                if head == "exchange":
                    known = len(tail) == 5 and tail[1::2] == "  " and set(tail[::2]) <= set("0123456789")
                if head == "move":
                    self.near_move(desk, row, tail)
                elif not known:
                    self.stays("NoRow", desk, row)
                elif row == "back":
                    self.stays("NoBack", desk, row)
                elif head == "exchange" and sorted(tail[::2]) != list("012"):
                    self.stays("NoSwarm", desk, row)
                else:
                    desk.say(row)

    def near_move(self, desk, row, tail):
        try:
            c = Fraction(tail)
        except (ValueError, ZeroDivisionError):
            self.stays("NoRow", desk, row)
            return
        if str(c) != tail:
            self.stays("NoRow", desk, row)
        elif not 0 <= c < Fraction(2, 3):
            self.stays("NoSwarm", desk, row)
        else:
            self.answers(desk, row, "ok")


class Walks(DeskCase):
    def walk(self, desk, model, draws, many):
        kinds = {}
        for done in range(many):
            row, wanted = drawn_row(draws, model)
            kinds[(row.split(" ")[0], wanted[:2] == "No")] = True
            if wanted[:2] == "No":
                self.stays(wanted, desk, row)
            else:
                self.answers(desk, row, wanted)
        return kinds

    def test_of_samples(self):
        draws = Draws(510)
        kinds = {}
        for swarm in sample_swarms(511, RULES, 1):
            kinds.update(self.walk(Desk(swarm_text(swarm)), Model(swarm), draws, 40))
        for word in ("glow", "glows", "hour", "swarm", "flocks"):
            self.assertIn((word, False), kinds)
        for word in ("move", "exchange", "back"):
            self.assertIn((word, False), kinds)
            self.assertIn((word, True), kinds)

    def test_two_desks_by_turns(self):
        draws = Draws(512)
        swarms = sample_swarms(513, RULES[::2], 1)
        for one, other in zip(swarms, reversed(swarms)):
            desks = [(Desk(swarm_text(swarm)), Model(swarm)) for swarm in (one, other, one)]
            for done in range(20):
                desk, model = desks[done % 3]
                self.walk(desk, model, draws, 1 + draws.below(2))
            for desk, model in desks:
                for row in ("hour", "swarm", "flocks"):
                    self.answers(desk, row, model.ask(row))

    def test_two_desks_of_one_text(self):
        one = Desk(THREE)
        other = Desk(THREE)
        first = told_at(other)
        one.say("glows 3")
        one.say("exchange 1 2 0")
        self.assertEqual(told_at(other), first)
        self.stays("NoBack", other, "back")
        other.say("move 1/2")
        self.stays("NoStand", other, "still")
        one.say("back")
        one.say("back")
        self.assertEqual(told_at(one), first)
        self.stays("NoBack", one, "back")
        other.say("back")
        self.assertEqual(told_at(other), first)

    def test_asked_again_all_is_the_same(self):
        for swarm in sample_swarms(514, RULES[::4], 1):
            desk = Desk(swarm_text(swarm))
            for row in ("glow", "glows 2", "move 0"):
                first = told_at(desk)
                self.assertEqual(told_at(desk), first)
                desk.say(row)

    def test_a_hundred_and_fifty_glows(self):
        for text in ("rule 7/8 1/8\nworms 0 0 0 0 1/7 1/7 1/7 1/7", "rule 5/7 4/11\nworms 0 19/59 19/59 37/53"):
            desk = Desk(text)
            for many in (40, 40, 40, 29):
                self.answers(desk, f"glows {many}", "ok")
            desk.say("glow")
            hour = Fraction(desk.say("hour"))
            self.assertGreater(hour, 10)
            paper = desk.say("paper")
            self.answers(desk, "look " + paper, "yes")
            self.answers(desk, "fate", paper.split(" ")[-1] + " " + str(len(desk.say("flocks").split(" "))))
            for done in range(5):
                desk.say("back")
            self.answers(desk, "swarm", text.replace("\n", "; "))
            self.answers(desk, "hour", "0")


if __name__ == "__main__":
    unittest.main()
