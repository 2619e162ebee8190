"""What several tests need: samples, the words of the document gone through step by step, a look at refusals."""

import unittest
from fractions import Fraction

from glowflock import errors

NAMES = ("NoNumber", "NoRule", "NoSwarm", "NoStand", "TooLong", "NoWeb", "NoText", "NoRow", "NoBack")
GREAT = 10 ** 60 - 1
NUMBERS = (
    (0, 1), (1, 1), (-1, 1), (1, 2), (-1, 2), (2, 3), (-5, 3), (7, 12), (11, 60), (9, 1), (-40, 7),
    (GREAT, 1), (1, GREAT), (-GREAT, GREAT - 1), (GREAT - 2, GREAT - 3),
)
NO_NUMBERS = (
    (2, 4), (-2, 4), (6, 3), (10, 10), (0, 2), (0, 0), (1, 0), (1, -1), (-1, -2), (0, -1),
    (2 * GREAT, GREAT), [1, 2], [0, 1], (), (1,), (1, 2, 3), (0, 1, 1),
    (True, 1), (1, True), (False, 1), (True, True), ("1", 2), (1, "2"), (None, 1), (1, None),
    ((1, 1), 1), (1, (1, 1)), ((0, 1), (1, 1)), ([1], 1), (1, [1]), (1.0, 2), (1, 2.0), (0.5, 1),
    None, True, False, 0, 1, 0.5, "", "12", "1/2", b"12", {}, {1: 2}, {0: 1, 1: 2}, {1, 2},
    range(1, 3), Fraction(1, 2), object(), len, int,
)


def nested(deep):
    inner = nested(deep - 1) if deep > 1 else 1
    return ([inner], (inner, 1), {"one": inner})[deep % 3]


KINDS = (
    None, True, False, 0, 1, -1, 2, 7, 30, 31, 40, 41, GREAT, 0.0, 1.0, 0.5, "", "0", "one", "rests", "drawn", "One",
    "one ", b"one", (), [], {}, (0,), [0], (0, 1), [0, 1], (1, 1), (1, 2), (0, 2), (True, 1), (0, True), (0, 1, 1),
    (0.0, 1), ((0, 1),), ((0, 1), (0, 1)), [(0, 1), (0, 1)], (None,), ("one",), {0: 0, 1: 1}, {0: (0, 1)}, {0, 1},
    frozenset(), range(2), Fraction(1, 2), object(), len, int, nested(4), nested(5), nested(6),
)

RISING = (
    ((9, 8), (0, 1)), ((9, 8), (1, 12)), ((8, 7), (1, 11)), ((3, 2), (1, 12)), ((5, 4), (1, 3)), ((31, 8), (11, 12)),
    ((4, 1), (1, 1)),
)
EVEN = (((1, 1), (0, 1)), ((1, 1), (1, 12)), ((1, 1), (2, 11)), ((1, 1), (1, 4)), ((1, 1), (1, 1)))
FALLING = (
    ((7, 8), (1, 8)), ((7, 8), (1, 6)), ((5, 7), (4, 11)), ((1, 2), (1, 2)), ((1, 2), (3, 5)), ((1, 8), (8, 9)),
    ((1, 8), (1, 1)),
)
RULES = RISING + EVEN + FALLING
SIZES = (
    (1,), (3,), (8,), (1, 1), (2, 1), (1, 2), (4, 4), (1, 7), (1, 1, 1), (2, 1, 1), (1, 2, 1), (3, 2, 3),
    (1, 1, 1, 1), (2, 1, 2, 3), (1, 2, 1, 2, 1), (1, 1, 1, 1, 1, 1), (1, 1, 1, 2, 1, 1, 1), (1,) * 8,
)


def as_number(fraction):
    return (fraction.numerator, fraction.denominator)


def as_fraction(number):
    return Fraction(number[0], number[1])


class Draws:
    """Draws that are the same in each run and under each Python."""

    def __init__(self, seed):
        self.state = seed

    def below(self, bound):
        self.state = (self.state * 6364136223846793005 + 1442695040888963407) % 2 ** 64
        return (self.state >> 33) % bound

    def one_of(self, things):
        return things[self.below(len(things))]

    def phase(self):
        bottom = 1 + self.below(60)
        return as_number(Fraction(self.below(bottom), bottom))

    def phases(self, many):
        few = [self.phase() for done in range(many)]
        # Drawn out of few again, so that some are alike.
        return tuple(self.one_of(few) for done in range(many))

    def any_places(self, sizes):
        tops = [self.below(2 * 10 ** 6) - 10 ** 6 for size in sizes[1:]]
        return tuple(as_number(Fraction(top, 1 + self.below(10 ** 6))) for top in tops)

    def falling_places(self, sizes):
        told = set()
        while len(told) < len(sizes) - 1:
            told.add(as_fraction(self.phase()))
            told.discard(0)
        return tuple(as_number(place) for place in sorted(told, reverse=True))

    def shuffled(self, things):
        told = list(things)
        for place in range(len(told)):
            other = self.below(place + 1)
            told[place], told[other] = told[other], told[place]
        return told


def sample_swarms(seed, rules, each):
    draws = Draws(seed)
    return [(rule, draws.phases(worms)) for rule in rules for worms in range(1, 9) for done in range(each)]


def fraction_pushed(rule, x, many):
    for done in range(many):
        x = as_fraction(rule[0]) * x + as_fraction(rule[1])
    return x


def glow_push_by_push(swarm):
    """Point 9 as its words go, with fractions."""
    phases = [as_fraction(phase) for phase in swarm[1]]
    wait = 1 - max(phases)
    phases = [phase + wait for phase in phases]
    waves = []
    glowed = set()
    wave = [worm for worm, phase in enumerate(phases) if phase == 1]
    while wave:
        waves.append(tuple(sorted(wave)))
        glowed |= set(wave)
        others = [worm for worm in range(len(phases)) if worm not in glowed]
        for pusher in wave:
            for worm in others:
                phases[worm] = fraction_pushed(swarm[0], phases[worm], 1)
        wave = [worm for worm in others if phases[worm] >= 1]
    told = [Fraction(0) if worm in glowed else phase for worm, phase in enumerate(phases)]
    return as_number(wait), tuple(waves), (swarm[0], tuple(as_number(phase) for phase in told))


def round_glow_by_glow(rule, sizes, places):
    """Point 14 as its words go, with fractions: the places behind, the time, the tops."""
    phases = [as_fraction(place) for place in places] + [Fraction(0)]
    waits = []
    tops = []
    for turn in range(len(sizes)):
        waits.append(1 - phases[turn])
        phases = [phase + waits[-1] for phase in phases]
        phases[turn] = Fraction(0)
        for other in range(len(sizes)):
            if other != turn:
                phases[other] = fraction_pushed(rule, phases[other], sizes[turn])
        tops.append(phases[0] if turn == len(sizes) - 1 else phases[turn + 1])
    assert phases[-1] == 0
    told = tuple(as_number(phase) for phase in phases[:-1])
    return told, as_number(sum(waits)), tuple(as_number(top) for top in tops)


def laid_of(swarm):
    """The sizes and places of a swarm that has a worm at 0."""
    falling = sorted({as_fraction(phase) for phase in swarm[1]}, reverse=True)
    sizes = tuple(sum(as_fraction(phase) == place for phase in swarm[1]) for place in falling)
    return sizes, tuple(as_number(place) for place in falling[:-1])


def walked(swarm, many):
    """The hour and the swarm behind many glows, gone through push by push, and how many of the glows join."""
    hour = Fraction(0)
    joins = 0
    for done in range(many):
        wait, waves, swarm = glow_push_by_push(swarm)
        hour += as_fraction(wait)
        joins += len(waves) > 1
    return as_number(hour), swarm, joins


def written(swarm, steps, word):
    """The paper with such rounds and glows, its stands come to push by push."""
    rows = []
    hour = Fraction(0)
    for rounds, glows in steps:
        rows.append((as_number(hour), swarm[1], rounds, glows))
        wait, swarm, joins = walked(swarm, rounds * len(set(swarm[1])) + glows)
        hour += as_fraction(wait)
    return rows + [(as_number(hour), swarm[1], word)]


def tick_push_by_push(web, stand):
    """Point 26 as its words go."""
    rounds, ups, ties = web
    phases = [phase + 1 for phase in stand[0]]
    ended = [worm for worm, phase in enumerate(phases) if phase >= rounds[worm]]

    def push(worm):
        if worm not in ended:
            phases[worm] += ups[worm][phases[worm]]
            if phases[worm] >= rounds[worm]:
                ended.append(worm)

    for worm, many in enumerate(stand[1][0]):
        for done in range(many):
            push(worm)
    waves = []
    later = [list(row) for row in stand[1][1:]] + [[0] * len(phases)]
    glowed = []
    while len(glowed) < len(ended):
        wave = sorted(worm for worm in ended if worm not in glowed)
        waves.append(tuple(wave))
        glowed.extend(wave)
        for tie in ties:
            if tie[0] in wave and tie[2] == 0:
                push(tie[1])
            elif tie[0] in wave:
                later[tie[2] - 1][tie[1]] += 1
    anew = tuple(0 if worm in glowed else phase for worm, phase in enumerate(phases))
    return tuple(waves), (anew, tuple(tuple(row) for row in later))


def sample_webs(seed, each):
    """Webs of one to eight worms, some with short rounds and some with long ones, each with phases."""
    draws = Draws(seed)
    told = []
    for worms in range(1, 9):
        for done in range(each):
            longest = draws.one_of((3, 9, 20, 60))
            rounds = tuple(1 + draws.below(longest) for worm in range(worms))
            highest = draws.one_of((1, 3, 9, 61))
            ups = tuple(tuple(draws.below(highest) for phase in range(count)) for count in rounds)
            all_ties = [(one, to, delay) for one in range(worms) for to in range(worms) for delay in range(5)]
            ties = draws.shuffled([tie for tie in all_ties if tie[0] != tie[1]])[:draws.one_of((2, 8, 20, 60))]
            phases = tuple(draws.below(count) for count in rounds)
            told.append(((rounds, ups, tuple(sorted(ties))), phases))
    return told


def is_same(one, other):
    """Alike, and of the same kinds all through: a truth and a whole number aren't."""
    if type(one) is not type(other):
        return False
    if isinstance(one, (list, tuple)):
        return len(one) == len(other) and all(is_same(part, its) for part, its in zip(one, other))
    return one == other


def ways_into(thing):
    """The way to each thing within lists and tuples, and to the whole."""
    told = [()]
    if isinstance(thing, (list, tuple)):
        for turn, part in enumerate(thing):
            told.extend((turn,) + way for way in ways_into(part))
    return told


def what_lies_at(thing, way):
    for turn in way:
        thing = thing[turn]
    return thing


def with_other(thing, way, change):
    """The same thing, but what lies at the end of the way is changed."""
    if not way:
        return change(thing)
    parts = list(thing)
    parts[way[0]] = with_other(parts[way[0]], way[1:], change)
    return type(thing)(parts)


def swarm_laid(rule, sizes, places, draws):
    """A swarm of these sizes and places, its worms in any order."""
    phases = []
    for size, place in zip(sizes, places + ((0, 1),)):
        phases.extend([place] * size)
    return rule, tuple(draws.shuffled(phases))


def number_text(number):
    """Point 33 as Python's own fractions write it."""
    return str(as_fraction(number))


def texts_of(numbers):
    return " ".join(number_text(number) for number in numbers)


def swarm_text(swarm):
    return "rule " + texts_of(swarm[0]) + "\nworms " + texts_of(swarm[1])


def web_text(web):
    lines = [["worm", count] + list(ups) for count, ups in zip(web[0], web[1])]
    lines.extend(["tie"] + list(tie) for tie in web[2])
    return "\n".join(" ".join(map(str, line)) for line in lines)


def paper_text(paper):
    rows = [(number_text(row[0]), texts_of(row[1]), " ".join(map(str, row[2:]))) for row in paper]
    return "; ".join(" : ".join(row) for row in rows)


def near_texts(text, signs):
    """Each text that has one sign less, more or another one, or two neighbours exchanged."""
    told = {}
    for place in range(len(text) + 1):
        head, tail = text[:place], text[place:]
        told[head + tail[1:]] = True
        told[head + tail[1:2] + tail[:1] + tail[2:]] = True
        for sign in signs:
            told[head + sign + tail] = True
            told[head + sign + tail[1:]] = True
    return list(told)


class GlowCase(unittest.TestCase):
    def refused(self, name, call, *things):
        with self.assertRaises(errors.GlowError) as caught:
            call(*things)
        self.assertIsInstance(caught.exception, ValueError)
        for other in NAMES:
            is_one = isinstance(caught.exception, getattr(errors, other))
            self.assertEqual(is_one, other == name, (other, things))

    def is_plain_number(self, told):
        self.assertIs(type(told), tuple)
        self.assertEqual([type(part) for part in told], [int, int])
        self.assertEqual(told, as_number(as_fraction(told)))
