"""Numbers: tuples (top, bottom) of whole numbers in lowest terms, bottom from 1 on."""

from glowflock.errors import NoNumber

NOUGHT = (0, 1)
ONE = (1, 1)


def is_whole(thing):
    # A truth counts as an int for Python, but is no whole number here.
    return isinstance(thing, int) and not isinstance(thing, bool)


def greatest_divisor(one, other):
    # Of two whole numbers from 0 on; a loop, since deep calls aren't the same on each Python.
    while other != 0:
        rest = one % other
        one = other
        other = rest
    return one


def is_number(thing):
    if not isinstance(thing, tuple) or len(thing) != 2:
        return False
    if not is_whole(thing[0]) or not is_whole(thing[1]):
        return False
    return thing[1] >= 1 and greatest_divisor(abs(thing[0]), thing[1]) == 1


def number(top, bottom):
    if bottom == 0:
        # The words name no figures: Python refuses to write very long ones.
        raise NoNumber("nothing is told over 0")
    divisor = greatest_divisor(abs(top), abs(bottom))
    if bottom < 0:
        divisor = -divisor
    return (top // divisor, bottom // divisor)


def plus(one, other):
    return number(one[0] * other[1] + other[0] * one[1], one[1] * other[1])


def minus(one, other):
    return number(one[0] * other[1] - other[0] * one[1], one[1] * other[1])


def times(one, other):
    return number(one[0] * other[0], one[1] * other[1])


def over(one, other):
    return number(one[0] * other[1], one[1] * other[0])


def less(one, other):
    # Bottoms are above 0, so the crosswise products stand as the numbers do.
    return one[0] * other[1] < other[0] * one[1]
