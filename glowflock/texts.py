"""Texts: how numbers, swarms, webs and papers are written, and what is read of them."""

from glowflock.errors import NoText
from glowflock.numbers import is_number
from glowflock.papers import WORDS, is_paper
from glowflock.swarms import MOST_WORMS, swarm_of
from glowflock.webs import web_of

FIGURES = "0123456789"
NUMBER_FIGURES = 60
WHOLE_FIGURES = 2


def show_number(number):
    top = str(number[0])
    if number[1] == 1:
        return top
    bottom = str(number[1])
    return f"{top}/{bottom}"


def show_numbers(numbers):
    return " ".join([show_number(one) for one in numbers])


def show_wholes(wholes):
    return " ".join([str(one) for one in wholes])


def show_swarm(swarm):
    rule = show_numbers(swarm[0])
    worms = show_numbers(swarm[1])
    return f"rule {rule}\nworms {worms}"


def show_web(web):
    worms = [show_wholes((count,) + own) for count, own in zip(web[0], web[1])]
    ties = [show_wholes(tie) for tie in web[2]]
    return "\n".join([f"worm {worm}" for worm in worms] + [f"tie {tie}" for tie in ties])


def show_row(row):
    hour = show_number(row[0])
    phases = show_numbers(row[1])
    end = show_wholes(row[2:])
    return f"{hour} : {phases} : {end}"


def show_paper(paper):
    return "; ".join([show_row(row) for row in paper])


def is_whole_text(text, most):
    if not 1 <= len(text) <= most or not all([sign in FIGURES for sign in text]):
        return False
    return text == "0" or text[0] != "0"


def number_in(text):
    parts = text.partition("/")
    return (int(parts[0]), int(parts[2]) if parts[2] else 1)


def is_number_text(text, most):
    parts = text.split("/")
    top = parts[0][1:] if text.startswith("-") else parts[0]
    if len(parts) > 2 or not all([is_whole_text(part, most) for part in [top] + parts[1:]]):
        return False
    told = number_in(text)
    # Written anew and compared, as -0 and a bottom of 1 are never written.
    return is_number(told) and show_number(told) == text


def wholes_in(words):
    if not all([is_whole_text(word, WHOLE_FIGURES) for word in words]):
        raise NoText("a word isn't a whole number as it is written")
    return tuple([int(word) for word in words])


def numbers_in(words, most):
    if not all([is_number_text(word, most) for word in words]):
        raise NoText("a word isn't a number as it is written")
    return tuple([number_in(word) for word in words])


def parts_of(text, between):
    if not isinstance(text, str):
        raise NoText("this is no text")
    return text.split(between)


def lines_of(text):
    return [line.split(" ") for line in parts_of(text, "\n")]


def read_swarm(text):
    lines = lines_of(text)
    if len(lines) != 2 or len(lines[0]) != 3 or len(lines[1]) < 2:
        raise NoText("a swarm has two lines, of two numbers and of one at least")
    if lines[0][0] != "rule" or lines[1][0] != "worms":
        raise NoText("the lines of a swarm begin otherwise")
    rule = numbers_in(lines[0][1:], NUMBER_FIGURES)
    return swarm_of(rule, numbers_in(lines[1][1:], NUMBER_FIGURES))


def lines_with(lines, first):
    return [wholes_in(line[1:]) for line in lines if line[0] == first]


def are_ties_in_order(ties):
    if not all([len(tie) == 3 for tie in ties]):
        return False
    return all([one < other for one, other in zip(ties, ties[1:])])


def read_web(text):
    lines = lines_of(text)
    worms = lines_with(lines, "worm")
    ties = lines_with(lines, "tie")
    if not worms or [line[0] for line in lines] != ["worm"] * len(worms) + ["tie"] * len(ties):
        raise NoText("the lines of a web begin otherwise")
    # A worm may lack its ups here, but not its round: whether they are enough is asked in making.
    if not all(worms) or not are_ties_in_order(ties):
        raise NoText("a worm without a round, or ties that aren't in order")
    return web_of([worm[0] for worm in worms], [worm[1:] for worm in worms], ties)


def row_in(text):
    parts = text.split(" : ")
    if len(parts) != 3:
        raise NoText("a row of a paper has three parts")
    # Of any size: no number has more figures than its row has signs.
    hour = numbers_in(parts[:1], len(text))[0]
    phases = numbers_in(parts[1].split(" "), len(text))
    end = tuple(parts[2:]) if parts[2] in WORDS else wholes_in(parts[2].split(" "))
    return (hour, phases) + end


def read_paper(text):
    rows = [row_in(part) for part in parts_of(text, "; ")]
    # No swarm is at hand, but there is none whose worms are more, or fewer in one row than in another.
    worms = len(rows[0][1])
    if worms > MOST_WORMS or not is_paper(rows, worms):
        raise NoText("these rows make no paper")
    return rows
