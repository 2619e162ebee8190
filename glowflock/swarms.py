"""Swarms: tuples (rule, phases); the worms glow by turns, and all push all by the one rule."""

from glowflock.errors import NoRule, NoSwarm
from glowflock.numbers import NOUGHT, ONE, is_number, less, minus, plus
from glowflock.rules import is_rule, pushed_by, pushes

MOST_WORMS = 8
PHASE_BOTTOM = 60


def is_phase(thing):
    if not is_number(thing) or less(thing, NOUGHT):
        return False
    return less(thing, ONE) and thing[1] <= PHASE_BOTTOM


def are_phases(thing):
    if not isinstance(thing, (list, tuple)) or not 1 <= len(thing) <= MOST_WORMS:
        return False
    return all([is_phase(one) for one in thing])


def swarm_of(rule, phases):
    if not is_rule(rule):
        raise NoRule("the first thing is no rule")
    if not are_phases(phases):
        raise NoSwarm("the second thing isn't the phases of a swarm")
    return (rule, tuple(phases))


def greatest(phases):
    told = phases[0]
    for phase in phases:
        if less(told, phase):
            told = phase
    return told


def worms_at(phases, phase):
    return tuple([worm for worm, own in enumerate(phases) if own == phase])


def flocks(swarm):
    told = []
    left = list(swarm[1])
    while left:
        phase = greatest(left)
        told.append((phase, worms_at(swarm[1], phase)))
        left = [other for other in left if other != phase]
    return told


def at_the_end(worms, phases):
    return tuple([worm for worm in worms if not less(phases[worm], ONE)])


def glow(swarm):
    wait = minus(ONE, greatest(swarm[1]))
    phases = [plus(phase, wait) for phase in swarm[1]]
    left = list(range(len(phases)))
    waves = []
    # The first wave needs no look of its own: at 1 are just the worms of the foremost flock.
    wave = at_the_end(left, phases)
    while wave:
        waves.append(wave)
        left = [worm for worm in left if worm not in wave]
        push = pushes(swarm[0], len(wave))
        for worm in left:
            phases[worm] = pushed_by(push, phases[worm])
        wave = at_the_end(left, phases)
    anew = [phase if worm in left else NOUGHT for worm, phase in enumerate(phases)]
    return (wait, tuple(waves), (swarm[0], tuple(anew)))


def moved(swarm, c):
    if less(c, NOUGHT):
        raise NoSwarm("a swarm isn't moved back")
    if not less(plus(greatest(swarm[1]), c), ONE):
        raise NoSwarm("a phase would be 1 or more")
    return (swarm[0], tuple([plus(phase, c) for phase in swarm[1]]))
