"""Histories: what a swarm does, glow by glow."""

from glowflock.numbers import NOUGHT, plus
from glowflock.swarms import glow


def history(swarm, many):
    rows = []
    hour = NOUGHT
    stand = swarm
    for done in range(many):
        told = glow(stand)
        hour = plus(hour, told[0])
        stand = told[2]
        rows.append((hour, told[1], stand[1]))
    return rows


def behind(swarm, many):
    rows = history(swarm, many)
    if not rows:
        return (NOUGHT, swarm)
    last = rows[-1]
    return (last[0], (swarm[0], last[2]))
