"""Papers: rows of stands that lead from a swarm to what becomes of it, for anybody to look through."""

from glowflock.histories import behind
from glowflock.numbers import NOUGHT, is_number, is_whole_from, plus
from glowflock.rounds import is_free, is_laid, laid, round_behind
from glowflock.rules import bend
from glowflock.still import MOST_FREE, draws_freely, free_rounds, rounds_behind, rounds_time
from glowflock.swarms import flocks, glow

MOST_GLOWS = 40
WORDS = ("one", "rests", "drawn")


def has_stand(row, worms):
    if not is_number(row[0]) or not isinstance(row[1], tuple) or len(row[1]) != worms:
        return False
    return all([is_number(phase) for phase in row[1]])


def is_row(thing, worms):
    if not isinstance(thing, tuple) or len(thing) != 4 or not has_stand(thing, worms):
        return False
    return is_whole_from(0, MOST_FREE, thing[2]) and is_whole_from(0, MOST_GLOWS, thing[3])


def is_last_row(thing, worms):
    if not isinstance(thing, tuple) or len(thing) != 3 or not has_stand(thing, worms):
        return False
    return isinstance(thing[2], str) and thing[2] in WORDS


def is_paper(thing, worms):
    if not isinstance(thing, list) or not thing:
        return False
    return all([is_row(row, worms) for row in thing[:-1]]) and is_last_row(thing[-1], worms)


def go_free(swarm, rounds):
    if not is_laid(swarm):
        return False
    both = laid(swarm)
    last = rounds_behind(swarm[0], both[0], both[1], rounds - 1)
    # Those between the first and the last needn't be looked at: they are free where these two are.
    return is_free(swarm[0], both[0], both[1]) and is_free(swarm[0], both[0], last)


def behind_rounds(swarm, rounds):
    both = laid(swarm)
    later = rounds_behind(swarm[0], both[0], both[1], rounds)
    now = dict(zip(both[1] + (NOUGHT,), later + (NOUGHT,)))
    phases = tuple([now[phase] for phase in swarm[1]])
    return (rounds_time(swarm[0], both[0], both[1], rounds), (swarm[0], phases))


def behind_row(swarm, rounds, glows):
    # Rounds of none are left out, as they may stand where the swarm isn't laid.
    first = behind_rounds(swarm, rounds) if rounds > 0 else (NOUGHT, swarm)
    then = behind(first[1], glows)
    return (plus(first[0], then[0]), then[1])


def leads_on(rule, row, following):
    swarm = (rule, row[1])
    if row[2] > 0 and not go_free(swarm, row[2]):
        return False
    told = behind_row(swarm, row[2], row[3])
    return following[0] == plus(row[0], told[0]) and following[1] == told[1][1]


def word_of(swarm):
    # None where this stand alone doesn't show what becomes of the swarm.
    if len(flocks(swarm)) == 1:
        return "one"
    if not is_laid(swarm):
        return None
    both = laid(swarm)
    if not is_free(swarm[0], both[0], both[1]):
        return None
    if round_behind(swarm[0], both[0], both[1]) == both[1]:
        return "rests"
    if bend(swarm[0]) == "falling" and draws_freely(swarm[0], both[0]):
        return "drawn"
    return None


def lets_by(swarm, paper):
    if not is_paper(paper, len(swarm[1])):
        return False
    if paper[0][0] != NOUGHT or paper[0][1] != swarm[1]:
        return False
    for row, following in zip(paper, paper[1:]):
        if not leads_on(swarm[0], row, following):
            return False
    return word_of((swarm[0], paper[-1][1])) == paper[-1][2]


def glows_to_join(swarm):
    count = 1
    told = glow(swarm)
    while len(told[1]) == 1:
        count += 1
        told = glow(told[2])
    return count


def next_row(hour, swarm):
    both = laid(swarm)
    rounds = free_rounds(swarm[0], both[0], both[1])
    # The round behind the free ones isn't free, so one of its glows joins, and the count ends.
    glows = glows_to_join(behind_rounds(swarm, rounds)[1])
    return (hour, swarm[1], rounds, glows)


def paper_of(swarm):
    # The first glow is done whatever the swarm is, as it is laid behind it.
    rows = [(NOUGHT, swarm[1], 0, 1)]
    word = None
    while word is None:
        row = rows[-1]
        told = behind_row((swarm[0], row[1]), row[2], row[3])
        hour = plus(row[0], told[0])
        word = word_of(told[1])
        rows.append(next_row(hour, told[1]) if word is None else (hour, told[1][1], word))
    return rows


def fate(swarm):
    last = paper_of(swarm)[-1]
    return (last[2], len(flocks((swarm[0], last[1]))))
