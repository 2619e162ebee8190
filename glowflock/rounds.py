"""Rounds: each flock glows once, from the first to the last, whatever the places are."""

from glowflock.errors import NoStand
from glowflock.numbers import NOUGHT, ONE, less, minus, plus
from glowflock.rules import pushed_by, pushes
from glowflock.swarms import flocks


def is_laid(swarm):
    return NOUGHT in swarm[1]


def laid(swarm):
    if not is_laid(swarm):
        raise NoStand("no worm is at 0")
    rows = flocks(swarm)
    sizes = tuple([len(row[1]) for row in rows])
    places = tuple([row[0] for row in rows[:-1]])
    return (sizes, places)


def phases_behind(rule, size, phases, turn):
    wait = minus(ONE, phases[turn])
    push = pushes(rule, size)
    told = [pushed_by(push, plus(phase, wait)) for phase in phases]
    # Set last, so that the flock that glows may be pushed with the others and nothing comes of it.
    told[turn] = NOUGHT
    return told


def stands(rule, sizes, places):
    # One row more than glows, as waits are seen ahead of a glow and tops behind it.
    told = [list(places) + [NOUGHT]]
    for turn, size in enumerate(sizes):
        told.append(phases_behind(rule, size, told[turn], turn))
    return told


def round_behind(rule, sizes, places):
    return tuple(stands(rule, sizes, places)[-1][:-1])


def round_time(rule, sizes, places):
    told = NOUGHT
    rows = stands(rule, sizes, places)
    for turn in range(len(sizes)):
        told = plus(told, minus(ONE, rows[turn][turn]))
    return told


def tops(rule, sizes, places):
    rows = stands(rule, sizes, places)
    count = len(sizes)
    return tuple([rows[turn + 1][(turn + 1) % count] for turn in range(count)])


def is_free(rule, sizes, places):
    steps = [ONE] + list(places) + [NOUGHT]
    if not all([less(lower, upper) for upper, lower in zip(steps, steps[1:])]):
        return False
    return all([less(top, ONE) for top in tops(rule, sizes, places)])


def round_map(rule, sizes):
    factor = pushes(rule, sum(sizes))[0]
    # The factor times nought is nought: behind a round from noughts the shifts alone are left.
    noughts = tuple([NOUGHT for size in sizes[1:]])
    return (factor, round_behind(rule, sizes, noughts))
