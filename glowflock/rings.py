"""Rings: the stands into which a web comes, and which come again and again."""

from glowflock.errors import TooLong
from glowflock.ticks import tick


def ring(web, stand, most):
    stands = []
    turns = {}
    ahead = stand
    while ahead not in turns:
        if len(stands) == most:
            raise TooLong("more stands come than are walked")
        turns[ahead] = len(stands)
        stands.append(ahead)
        ahead = tick(web, ahead)[1]
    first = turns[ahead]
    return (stands[:first], stands[first:])


def is_ring(web, stand, told):
    if not told[1]:
        return False
    stands = told[0] + told[1]
    # The first of the second list stands at the end once more: there the ring must close.
    following = stands[1:] + told[1][:1]
    if stands[0] != stand:
        return False
    for one, other in zip(stands, following):
        if tick(web, one)[1] != other:
            return False
    return True


def is_one(web, told):
    glows = [tick(web, stand)[0] for stand in told[1]]
    counts = [sum([len(wave) for wave in waves]) for waves in glows if waves]
    return len(counts) > 0 and all([count == len(web[0]) for count in counts])
