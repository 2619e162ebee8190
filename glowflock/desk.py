"""The desk: it keeps a swarm and its hour, and answers rows of words with texts."""

from glowflock.changes import exchanged
from glowflock.errors import NoBack, NoRow
from glowflock.histories import behind
from glowflock.numbers import NOUGHT, plus
from glowflock.papers import MOST_GLOWS, fate, lets_by, paper_of
from glowflock.rounds import laid
from glowflock.still import free_rounds, still
from glowflock.swarms import flocks, glow, moved
from glowflock.texts import (
    is_number_text, is_whole_text, number_in, read_paper, read_swarm, show_number, show_numbers, show_paper, show_swarm,
)

MOVE_FIGURES = 6
GLOWS_FIGURES = 2
WORM_FIGURES = 1


def with_commas(worms):
    return ",".join([str(worm) for worm in worms])


def by_glow(swarm, words):
    told = glow(swarm)
    wait = show_number(told[0])
    waves = " / ".join([with_commas(wave) for wave in told[1]])
    return (f"{wait} {waves}", told[0], told[2])


def by_glows(swarm, words):
    told = behind(swarm, int(words[0]))
    return ("ok", told[0], told[1])


def by_move(swarm, words):
    return ("ok", NOUGHT, moved(swarm, number_in(words[0])))


def by_exchange(swarm, words):
    return ("ok", NOUGHT, exchanged(swarm, [int(word) for word in words]))


def tell_swarm(swarm):
    return show_swarm(swarm).replace("\n", "; ")


def tell_flocks(swarm):
    return " ".join([with_commas(flock[1]) for flock in flocks(swarm)])


def tell_fate(swarm):
    told = fate(swarm)
    word = told[0]
    count = told[1]
    return f"{word} {count}"


def tell_free(swarm):
    both = laid(swarm)
    count = free_rounds(swarm[0], both[0], both[1])
    return "ever" if count is None else str(count)


def tell_still(swarm):
    places = still(swarm[0], laid(swarm)[0])
    # Of one flock there are no places to tell, though those of none are still.
    return show_numbers(places) if places else "none"


def tell_paper(swarm):
    return show_paper(paper_of(swarm))


# Each tells (answer, wait, swarm), of the swarm and the words behind the first one.
CHANGES = {"glow": by_glow, "glows": by_glows, "move": by_move, "exchange": by_exchange}
ASKS = {
    "swarm": tell_swarm, "flocks": tell_flocks, "fate": tell_fate, "free": tell_free, "still": tell_still,
    "paper": tell_paper,
}


def is_count(word):
    return is_whole_text(word, GLOWS_FIGURES) and int(word) <= MOST_GLOWS


def is_worm_text(word):
    # Whether there is such a worm isn't asked here: what is no order is refused where worms are exchanged.
    return is_whole_text(word, WORM_FIGURES)


def is_said(first, words, worms):
    if first == "glows":
        return len(words) == 1 and is_count(words[0])
    if first == "move":
        return len(words) == 1 and is_number_text(words[0], MOVE_FIGURES)
    if first == "exchange":
        return len(words) == worms and all([is_worm_text(word) for word in words])
    if first == "look":
        # Whatever follows is its text, also one without signs, but the blank must be there.
        return len(words) > 0
    return not words and (first in ("glow", "back", "hour") or first in ASKS)


class Desk:
    def __init__(self, text):
        self.swarm = read_swarm(text)
        self.hour = NOUGHT
        self.past = []

    def say(self, row):
        words = row.split(" ") if isinstance(row, str) else [""]
        first = words[0]
        if not is_said(first, words[1:], len(self.swarm[1])):
            raise NoRow("the desk knows no such row")
        if first in CHANGES:
            return self.change(CHANGES[first](self.swarm, words[1:]))
        if first == "back":
            return self.go_back()
        if first == "hour":
            return show_number(self.hour)
        if first == "look":
            return self.look_through(row.partition(" ")[2])
        return ASKS[first](self.swarm)

    def change(self, told):
        self.past.append((self.hour, self.swarm))
        self.hour = plus(self.hour, told[1])
        self.swarm = told[2]
        return told[0]

    def go_back(self):
        if not self.past:
            raise NoBack("nothing is left to be taken back")
        last = self.past.pop()
        self.hour = last[0]
        self.swarm = last[1]
        return "ok"

    def look_through(self, text):
        return "yes" if lets_by(self.swarm, read_paper(text)) else "no"
