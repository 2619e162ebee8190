"""Point 34: what is read, and what is refused, and with what."""

import re
import unittest
from fractions import Fraction

from glowflock.texts import read_paper, read_swarm, read_web
from helper import KINDS, GlowCase, as_number, is_same, near_texts

SWARM = "rule 3/2 1/12\nworms 1/3 0 59/60"
WEB = "worm 3 0 1 60\nworm 2 10 2\nworm 1 7\ntie 0 1 0\ntie 0 1 3\ntie 0 2 1\ntie 2 0 4"
PAPER = "0 : 1/3 0 : 2 10; 13/4 : 0 -1/2 : 0 0; 7 : 0 0 : one"
NO_TEXTS = [thing for thing in KINDS if not isinstance(thing, str)] + [
    SWARM.encode(), WEB.encode(), PAPER.encode(), SWARM.split("\n"), tuple(WEB.split("\n")), [SWARM], {WEB: WEB},
    (PAPER,),
]
NO_NUMBER_TEXTS = (
    "", "-", "+", "+1", "--1", "-0", "+0", "00", "01", "-01", "001", "1.", "1.0", ".5", "1e1", "0x1", "1_0", "1,5", "x",
    "1/", "/1", "/2", "/", "1//2", "1/2/3", "1/1", "0/1", "7/1", "-1/1", "1/0", "0/0", "-1/0", "2/4", "-2/4", "0/2",
    "4/2", "10/15", "1/02", "01/2", "1/-2", "-1/-2", "1/+2", "1/2-", "1-", "1/2x", "\t1", "1\t", "1\r", "\x0b1",
    "1\xa0", "\u0663", "\u00b2", "\u0661/\u0662", "\u22121", "\uff11", "None", "(1, 2)",
)
NO_WHOLE_TEXTS = (
    "", "-", "-0", "-1", "+1", "00", "01", "007", "100", "999", "1/2", "2/1", "1.", "1.0", "1_0", "x", "1x", "\t1",
    "1\r", "\u0663", "\u00b2", "\uff11", "True",
)


def number_in(word, most):
    """The number that is written so, with at most so many figures; None where it is none."""
    if not re.fullmatch("-?[0-9]{1,%d}(/0*[1-9][0-9]*)?" % most, word) or len(word.partition("/")[2]) > most:
        return None
    return as_number(Fraction(word)) if str(Fraction(word)) == word else None


def whole_in(word):
    return int(word) if re.fullmatch("0|[1-9][0-9]?", word) else None


def swarm_of_text(text):
    """What reading answers: a swarm or the name of a refusal."""
    match = re.fullmatch("rule ([^ \n]+) ([^ \n]+)\nworms ([^\n]+)", text)
    words = [match[1], match[2]] + match[3].split(" ") if match else [""]
    numbers = [number_in(word, 60) for word in words]
    if None in numbers:
        return "NoText"
    a, b = [Fraction(*number) for number in numbers[:2]]
    if not (0 < a <= 4 and a.denominator <= 8 and 0 <= b <= 1 and b.denominator <= 12 and a + b >= 1):
        return "NoRule"
    phases = [Fraction(*number) for number in numbers[2:]]
    if len(phases) > 8 or not all(0 <= phase < 1 and phase.denominator <= 60 for phase in phases):
        return "NoSwarm"
    return tuple(numbers[:2]), tuple(numbers[2:])


def web_of_text(text):
    match = re.fullmatch("((?:worm [^\n]+\n?)+)((?:tie [^\n]+\n?)*)", text)
    if not match or text.endswith("\n"):
        return "NoText"
    parts = [[line.split(" ")[1:] for line in part.split("\n") if line] for part in match.groups()]
    worms, ties = [[[whole_in(word) for word in line] for line in part] for part in parts]
    if any(None in line for line in worms + ties) or any(len(tie) != 3 for tie in ties):
        return "NoText"
    if any(one >= other for one, other in zip(ties, ties[1:])):
        return "NoText"
    numbers = range(len(worms))
    rounds_fit = all(1 <= line[0] <= 60 and len(line) == line[0] + 1 and max(line[1:]) <= 60 for line in worms)
    ties_fit = all(tie[0] in numbers and tie[1] in numbers and tie[0] != tie[1] and tie[2] <= 4 for tie in ties)
    if len(worms) > 8 or len(ties) > 60 or not rounds_fit or not ties_fit:
        return "NoWeb"
    return tuple(line[0] for line in worms), tuple(tuple(line[1:]) for line in worms), tuple(map(tuple, ties))


def row_of_text(text):
    """A row as a tuple, or None."""
    match = re.fullmatch("([^ ]+) : ([^:]+) : (?:([0-9]+) ([0-9]+)|(one|rests|drawn))", text)
    if not match:
        return None
    numbers = [number_in(word, 5000) for word in [match[1]] + match[2].split(" ")]
    end = (match[5],) if match[5] else (whole_in(match[3]), whole_in(match[4]))
    if None in numbers or None in end or (len(end) == 2 and (end[0] > 30 or end[1] > 40)):
        return None
    return (numbers[0], tuple(numbers[1:])) + end


def paper_of_text(text):
    rows = [row_of_text(part) for part in text.split("; ")]
    if None in rows or [len(row) for row in rows] != [4] * (len(rows) - 1) + [3]:
        return "NoText"
    counts = {len(row[1]) for row in rows}
    return rows if len(counts) == 1 and max(counts) <= 8 else "NoText"


class ReadCase(GlowCase):
    def reads(self, read, text, wanted):
        if isinstance(wanted, str):
            self.refused(wanted, read, text)
        else:
            self.assertTrue(is_same(read(text), wanted), text)


class Swarms(ReadCase):
    def asked(self, text, wanted):
        self.assertEqual(swarm_of_text(text), wanted, text)
        self.reads(read_swarm, text, wanted)

    def test_by_hand(self):
        self.asked(SWARM, (((3, 2), (1, 12)), ((1, 3), (0, 1), (59, 60))))
        self.asked("rule 1 0\nworms 0", (((1, 1), (0, 1)), ((0, 1),)))
        self.asked("rule 4 1\nworms 0 0 0 0 0 0 0 1/60", (((4, 1), (1, 1)), ((0, 1),) * 7 + ((1, 60),)))

    def test_what_is_no_text(self):
        for thing in NO_TEXTS:
            self.refused("NoText", read_swarm, thing)

    def test_words_that_are_no_numbers(self):
        for word in NO_NUMBER_TEXTS:
            for text in (f"rule {word} 1\nworms 0", f"rule 1 {word}\nworms 0"):
                self.asked(text, "NoText")
            for text in (f"rule 1 1\nworms {word}", f"rule 1 1\nworms {word} 0", f"rule 1 1\nworms 0 {word}"):
                self.asked(text, "NoText")

    def test_sixty_figures_and_one_more(self):
        for figures, of_rule, of_worms in (
            (59, "NoRule", "NoSwarm"), (60, "NoRule", "NoSwarm"), (61, "NoText", "NoText"),
        ):
            great = "1" * figures
            for word in (great, "-" + great, "1/" + great, "-1/" + great):
                self.asked(f"rule {word} 1\nworms 0", of_rule)
                self.asked(f"rule 1 {word}\nworms 0", of_rule)
                self.asked(f"rule 1 1\nworms 0 {word}", of_worms)
            self.asked("rule 1 1\nworms " + great + "/1" + "0" * (figures - 1), of_worms)
            self.asked("rule 1 1\nworms -1" + "0" * (figures - 1) + "/" + great, of_worms)
            self.asked("rule 1 1\nworms " + "0" * figures, "NoText")
        self.asked("rule 1 1\nworms " + "1" * 60 + "/1" + "0" * 60, "NoText")
        self.asked("rule 1 1\nworms " + "1" * 61 + "/1" + "0" * 59, "NoText")
        self.asked("rule 1 1\nworms 1/" + "9" * 3000, "NoText")

    def test_other_first_words(self):
        for first in ("", "Rule", "RULE", "rules", "rul", "worms", "swarm", "rule:", "1", "rule\t1", "ruler"):
            self.asked(f"{first} 1 1\nworms 0", "NoText")
        for first in ("", "Worms", "WORMS", "worm", "wormss", "rule", "worms:", "0", "worms\t"):
            self.asked(f"rule 1 1\n{first} 0", "NoText")

    def test_blanks_and_line_ends(self):
        for text in (
            " " + SWARM, SWARM + " ", "\n" + SWARM, SWARM + "\n", SWARM + "\r", SWARM + "\t", SWARM + "\n\n",
            SWARM.replace("\n", " \n"), SWARM.replace("\n", "\n "), SWARM.replace("\n", "\n\n"),
            SWARM.replace("\n", "\r\n"),
            SWARM.replace("\n", " "), SWARM.replace("\n", "; "), SWARM.replace("\n", "\r"), SWARM.replace("\n", ""),
            SWARM.replace("\n", "\x0b"), SWARM.replace("\n", "\u2028"), SWARM.replace(" ", "  "),
            SWARM.replace(" ", "\t"),
            SWARM.replace("rule ", "rule  "), SWARM.replace("worms ", "worms  "), SWARM.replace("rule ", "rule"),
            SWARM.replace(" 0 ", "  0 "), SWARM.replace(" 0 ", " 0  "), SWARM.replace(" 0 ", "\n0 "),
            SWARM.replace(" 0 ", ", 0, "), "rule 1\n1\nworms 0",
        ):
            self.asked(text, "NoText")

    def test_lines_and_words_too_few_and_too_many(self):
        rule, worms = SWARM.split("\n")
        for text in (
            "", " ", "\n", rule, worms, worms + "\n" + rule, rule + "\n" + rule, worms + "\n" + worms,
            rule + "\n" + worms + "\n" + worms, rule + "\n" + rule + "\n" + worms, SWARM + "\nx", SWARM + "\ntie 0 1 0",
            "rule\nworms 0", "rule 1\nworms 0", "rule 1 1 1\nworms 0", "rule 1 1 \nworms 0", "rule \nworms 0",
            "rule  \nworms 0", "rule 1 \nworms 0",
        ):
            self.asked(text, "NoText")

    def test_no_worm(self):
        for text in ("rule 1 1\nworms", "rule 1 1\nworms ", "rule 1 1\n", "rule 5 5\nworms", "rule 1 1\nworms  "):
            self.asked(text, "NoText")

    def test_then_no_rule_and_then_no_swarm(self):
        for rule in (
            "0 1", "-1 1", "5 0", "33/8 0", "1/9 1", "10/9 0", "1 -1/12", "1 13/12", "1 2", "1 1/13", "1/2 1/3",
            "1/2 0", "0 0",
        ):
            for worms in ("0", "1", "-1/2", "1/61", "0 " * 8 + "0", "9"):
                self.asked(f"rule {rule}\nworms {worms}", "NoRule")
            self.asked(f"rule {rule}\nworms x", "NoText")
            self.asked(f"rule {rule}\nworms 0 ", "NoText")
        for worms in ("1", "-1/2", "-1", "1/61", "60/61", "3/2", "0 0 1", "0 " * 8 + "0", "0 " * 99 + "0", "1/1000"):
            self.asked(f"rule 1 1\nworms {worms}", "NoSwarm")
            self.asked(f"rule 1 1\nworms {worms}\n", "NoText")

    def test_near_texts(self):
        seen = {}
        for first in (SWARM, "rule 1 0\nworms 0", "rule 7/8 1/8\nworms 1/2 49/60"):
            for text in near_texts(first, " 0127-/\nx"):
                wanted = swarm_of_text(text)
                self.reads(read_swarm, text, wanted)
                seen[wanted if isinstance(wanted, str) else "read"] = True
        self.assertEqual(sorted(seen), ["NoRule", "NoSwarm", "NoText", "read"])


class Webs(ReadCase):
    def asked(self, text, wanted):
        self.assertEqual(web_of_text(text), wanted, text)
        self.reads(read_web, text, wanted)

    def test_by_hand(self):
        ties = ((0, 1, 0), (0, 1, 3), (0, 2, 1), (2, 0, 4))
        self.asked(WEB, ((3, 2, 1), ((0, 1, 60), (10, 2), (7,)), ties))
        self.asked("worm 1 0", ((1,), ((0,),), ()))
        self.asked("worm 1 0\nworm 1 60", ((1, 1), ((0,), (60,)), ()))

    def test_what_is_no_text(self):
        for thing in NO_TEXTS:
            self.refused("NoText", read_web, thing)

    def test_words_that_are_no_whole_numbers(self):
        for word in NO_WHOLE_TEXTS:
            for text in (
                f"worm {word} 0", f"worm 1 {word}", f"worm 2 0 {word}", f"worm 1 0\nworm 1 0\ntie {word} 1 0",
                f"worm 1 0\nworm 1 0\ntie 0 {word} 0", f"worm 1 0\nworm 1 0\ntie 0 1 {word}",
                f"worm 1 0\nworm 1 {word}", f"worm 1 {word} 0",
            ):
                self.asked(text, "NoText")

    def test_other_first_words(self):
        for first in ("", "Worm", "worms", "wor", "WORM", "worm:", "tie", "rule", "1", "worm\t"):
            self.asked(f"{first} 1 0", "NoText")
            self.asked(f"{first} 1 0\nworm 1 0", "NoText")
        for first in ("", "Tie", "ties", "ti", "TIE", "tie:", "worms", "0", "tie\t"):
            self.asked(f"worm 1 0\nworm 1 0\n{first} 0 1 0", "NoText")
        # A tie that is called a worm is read as a worm, and makes no web.
        self.asked("worm 1 0\nworm 1 0\nworm 0 1 0", "NoWeb")

    def test_blanks_and_line_ends(self):
        for text in (
            " " + WEB, WEB + " ", "\n" + WEB, WEB + "\n", WEB + "\r", WEB + "\n\n", WEB.replace("\n", "\n\n", 1),
            WEB.replace("\n", " \n", 1), WEB.replace("\n", "\n ", 1), WEB.replace("\n", "\r\n"),
            WEB.replace("\n", "; "),
            WEB.replace("\n", " "), WEB.replace("\n", ""), WEB.replace(" ", "  ", 1), WEB.replace(" ", "\t"),
            WEB.replace("\ntie", "\n\ntie", 1), WEB.replace("tie ", "tie  ", 1), WEB.replace("\n", "\x0b"),
            "worm 1 0\n", "worm 1 0 ", "worm 1  0", " worm 1 0", "worm 1\n0", "", " ", "\n",
        ):
            self.asked(text, "NoText")

    def test_no_worm(self):
        for text in ("tie 0 1 0", "tie 0 1 0\ntie 1 0 0", "", "tie 0 1 0\nworm 1 0"):
            self.asked(text, "NoText")

    def test_worms_without_a_round_and_any_count_of_ups(self):
        for text in ("worm", "worm ", "worm 1 0\nworm", "worm\nworm 1 0", "worm 1 0\nworm\ntie 0 1 0", "worm 2 0 "):
            self.asked(text, "NoText")
        for text in (
            "worm 1", "worm 2", "worm 2 0", "worm 2 0 0 0", "worm 1 0\nworm 1", "worm 0",
            "worm 3 " + "0 " * 99 + "0",
        ):
            self.asked(text, "NoWeb")

    def test_ties_of_other_forms(self):
        head = "worm 1 0\nworm 1 0\nworm 1 0\n"
        for tie in (
            "tie", "tie ", "tie 0", "tie 0 1", "tie 0 1 ", "tie 0 1 0 ", "tie 0 1 0 0", "tie  0 1", "tie 0,1,0",
        ):
            self.asked(head + tie, "NoText")
            self.asked(head + tie + "\ntie 1 2 0", "NoText")
            self.asked(head + "tie 0 0 0\n" + tie, "NoText")

    def test_ties_rise_and_none_is_twice(self):
        head = "worm 1 0\nworm 1 0\nworm 1 0\n"
        for ties in (
            ("0 1 0", "0 1 0"), ("0 1 1", "0 1 0"), ("0 2 0", "0 1 4"), ("1 0 0", "0 2 4"), ("0 1 0", "0 2 0", "0 1 0"),
            ("0 1 0", "0 1 1", "0 1 1"), ("2 0 0", "1 0 0", "0 1 0"), ("0 10 0", "0 2 0"), ("10 0 0", "2 0 0"),
        ):
            self.asked(head + "\n".join("tie " + tie for tie in ties), "NoText")
        # They rise as numbers do, not as words.
        for ties in (("0 2 0", "0 10 0"), ("2 0 0", "10 0 0"), ("0 1 2", "0 1 10")):
            self.asked(head + "\n".join("tie " + tie for tie in ties), "NoWeb")

    def test_worms_stand_ahead_of_ties(self):
        for text in (
            "tie 0 1 0\nworm 1 0\nworm 1 0", "worm 1 0\ntie 0 1 0\nworm 1 0", WEB + "\nworm 1 0",
            "worm 1 0\nworm 1 0\ntie 0 1 0\nworm 1 0\ntie 1 0 0",
        ):
            self.asked(text, "NoText")

    def test_then_no_web(self):
        for text in (
            "worm 0 0", "worm 61 " + "0 " * 60 + "0", "worm 99 " + "0 " * 98 + "0", "worm 1 61", "worm 1 99",
            "\n".join(["worm 1 0"] * 9), "\n".join(["worm 1 0"] * 50), "worm 1 0\ntie 0 1 0",
            "worm 1 0\nworm 1 0\ntie 0 2 0",
            "worm 1 0\nworm 1 0\ntie 2 0 0", "worm 1 0\nworm 1 0\ntie 0 0 0", "worm 1 0\nworm 1 0\ntie 1 1 1",
            "worm 1 0\nworm 1 0\ntie 0 1 5", "worm 1 0\nworm 1 0\ntie 0 1 99", "worm 1 0\nworm 1 0\ntie 99 1 0",
        ):
            self.asked(text, "NoWeb")
            self.asked(text + "\n", "NoText")
            self.asked(text + "\ntie 99 99", "NoText")

    def test_sixty_ties_and_one_more(self):
        ties = [(one, to, delay) for one in range(8) for to in range(8) for delay in range(5) if one != to]
        for count in (60, 61, 100):
            lines = ["worm 1 0"] * 8 + ["tie %d %d %d" % tie for tie in ties[:count]]
            wanted = ((1,) * 8, ((0,),) * 8, tuple(ties[:60])) if count == 60 else "NoWeb"
            self.asked("\n".join(lines), wanted)

    def test_near_texts(self):
        seen = {}
        for first in (WEB, "worm 1 0", "worm 2 10 0\nworm 1 1\ntie 0 1 0\ntie 1 0 0"):
            for text in near_texts(first, " 0126-/\nx"):
                wanted = web_of_text(text)
                self.reads(read_web, text, wanted)
                seen[wanted if isinstance(wanted, str) else "read"] = True
        self.assertEqual(sorted(seen), ["NoText", "NoWeb", "read"])


class Papers(ReadCase):
    def asked(self, text, wanted):
        self.assertEqual(paper_of_text(text), wanted, text)
        self.reads(read_paper, text, wanted)

    def test_by_hand(self):
        rows = [((0, 1), ((1, 3), (0, 1)), 2, 10), ((13, 4), ((0, 1), (-1, 2)), 0, 0), ((7, 1), ((0, 1),) * 2, "one")]
        self.asked(PAPER, rows)
        self.asked("0 : 0 : one", [((0, 1), ((0, 1),), "one")])
        self.asked("-1/2 : 5 5 5 : rests", [((-1, 2), ((5, 1),) * 3, "rests")])
        self.asked("0 : 0 : 30 40; 9 : 1 : drawn", [((0, 1), ((0, 1),), 30, 40), ((9, 1), ((1, 1),), "drawn")])

    def test_what_is_no_text(self):
        for thing in NO_TEXTS:
            self.refused("NoText", read_paper, thing)

    def test_words_that_are_no_numbers(self):
        for word in NO_NUMBER_TEXTS:
            for text in (
                f"{word} : 0 : one", f"0 : {word} : one", f"0 : 0 {word} : one", f"0 : {word} 0 : one",
                f"0 : 0 : 1 1; {word} : 0 : one", f"{word} : 0 : 1 1; 0 : 0 : one", f"0 : {word} : 1 1; 0 : 0 : one",
            ):
                self.asked(text, "NoText")

    def test_words_that_are_no_whole_numbers(self):
        for word in NO_WHOLE_TEXTS:
            for text in (f"0 : 0 : {word} 1; 0 : 0 : one", f"0 : 0 : 1 {word}; 0 : 0 : one"):
                self.asked(text, "NoText")

    def test_rounds_and_glows(self):
        for rounds in range(100):
            rows = [((0, 1), ((0, 1),), rounds, 7), ((0, 1), ((0, 1),), "one")]
            self.asked(f"0 : 0 : {rounds} 7; 0 : 0 : one", rows if rounds <= 30 else "NoText")
            rows = [((0, 1), ((0, 1),), 7, rounds), ((0, 1), ((0, 1),), "one")]
            self.asked(f"0 : 0 : 7 {rounds}; 0 : 0 : one", rows if rounds <= 40 else "NoText")

    def test_numbers_of_any_size(self):
        for figures in (60, 61, 1000, 4000):
            great = "9" * figures
            for word in (great, "-" + great, "1/" + great, "-" + great + "/1" + "0" * figures):
                number = as_number(Fraction(word))
                if figures < 4000:
                    self.asked(f"{word} : {word} 0 : one", [(number, (number, (0, 1)), "one")])
                else:
                    self.reads(read_paper, f"{word} : {word} 0 : one", [(number, (number, (0, 1)), "one")])

    def test_words(self):
        for word in (
            "", "One", "ONE", "ones", "on", "rest", "rests ", "drawn.", "two", "free", "None", "1", "1 1 1",
            "one one", "one 1", "1 one",
        ):
            self.asked(f"0 : 0 : {word}", "NoText")
            self.asked(f"0 : 0 : {word}; 0 : 0 : one", "NoText")

    def test_a_word_too_early_or_none(self):
        for text in (
            "0 : 0 : one; 0 : 0 : one", "0 : 0 : 1 1; 0 : 0 : rests; 0 : 0 : rests", "0 : 0 : 1 1",
            "0 : 0 : 1 1; 0 : 0 : 1 1",
            "0 : 0 : one; 0 : 0 : 1 1", "0 : 0 : drawn; 0 : 0 : 1 1; 0 : 0 : drawn",
        ):
            self.asked(text, "NoText")

    def test_parts_left_out_and_more_of_them(self):
        for text in (
            "", " ", ";", "; ", ":", " : ", " :  : ", "0", "one", "0 : 0", "0 : one", "0 one", "0 : 0 : ", " : 0 : one",
            "0 :  : one", "0 : : one", "0 :   : one", "0 0 : 0 : one", "0 : 0 : 0 : one", "0 : 0 : one : one",
            "0 : 0 : 1; 0 : 0 : one",
            "0 : 0 : 1 1 1; 0 : 0 : one", "0 : 0 1 1; 0 : 0 : one", "0 : 0 : 1 1; 0 : one", "0 : 0 : 1 1; one",
            "0 : 0 : 1 1; ",
            "; 0 : 0 : one", "0 : 0 : one; ", "0 : 0 : one;", "0 : 0 : 1 1; ; 0 : 0 : one", "0 : 0 : 1 1;0 : 0 : one", "0 : 0 : 1 1 : 1; 0 : 0 : one",
            "0 : 0 : 1 1 : one; 0 : 0 : one", "0 : 0 : 1 1 : ; 0 : 0 : one",
            "0 : 0 : 1 1 ; 0 : 0 : one", "0 : 0 : 1 1;  0 : 0 : one", "0 : 0 : 1 1, 0 : 0 : one",
            "0 : 0 : 1 1\n0 : 0 : one",
        ):
            self.asked(text, "NoText")

    def test_blanks_and_line_ends(self):
        for text in (
            " " + PAPER, PAPER + " ", "\n" + PAPER, PAPER + "\n", PAPER + "\r", PAPER.replace("; ", ";\n"),
            PAPER.replace("; ", "\n"), PAPER.replace("; ", " ; "), PAPER.replace(" : ", ":"),
            PAPER.replace(" : ", " :"),
            PAPER.replace(" : ", ": "), PAPER.replace(" : ", "  : ", 1), PAPER.replace(" : ", " :  ", 1),
            PAPER.replace(" ", "\t"),
            PAPER.replace(" 0 : 2", "  0 : 2"), PAPER.replace("2 10", "2  10"), PAPER.replace("2 10", "2,10"),
            "0 : 0\n : one",
            "0\n: 0 : one", "0 : 0 : one\n0 : 0 : one",
        ):
            self.assertNotEqual(text, PAPER)
            self.asked(text, "NoText")

    def test_as_many_phases_in_each_row_as_some_swarm_has_worms(self):
        for worms in range(1, 10):
            phases = " ".join(["1/2"] * worms)
            rows = [((0, 1), ((1, 2),) * worms, 0, 0), ((0, 1), ((1, 2),) * worms, "one")]
            self.asked(f"0 : {phases} : 0 0; 0 : {phases} : one", rows if worms <= 8 else "NoText")
            self.asked(f"0 : {phases} : one", rows[1:] if worms <= 8 else "NoText")
            self.asked(f"0 : {phases} : 0 0; 0 : {phases} 0 : one", "NoText")
            self.asked(f"0 : {phases} 0 : 0 0; 0 : {phases} : one", "NoText")

    def test_near_texts(self):
        seen = {}
        for first in (PAPER, "0 : 0 : one", "1/2 : 1/3 0 : 30 40; 8/3 : 0 1/60 : drawn"):
            for text in near_texts(first, " 0123-/:;\nx"):
                wanted = paper_of_text(text)
                self.reads(read_paper, text, wanted)
                seen[wanted if isinstance(wanted, str) else "read"] = True
        self.assertEqual(sorted(seen), ["NoText", "read"])


if __name__ == "__main__":
    unittest.main()
