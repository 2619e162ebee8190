"""Numbers: tuples (top, bottom) of whole numbers in lowest terms, bottom from 1 on."""

from glowflock.errors import NoNumber

NOUGHT = (0, 1)
ONE = (1, 1)


def is_whole(thing):
    # A truth counts as an int for Python, but is no whole number here.
    return isinstance(thing, int) and not isinstance(thing, bool)


def is_whole_from(least, most, thing):
    return is_whole(thing) and least <= thing <= most


def greatest_divisor(one, other):
    # Of two whole numbers from 0 on; a loop, since deep calls aren't the same on each Python.
    while other != 0:
        rest = one % other
        one = other
        other = rest
    return one


def is_number(thing):
    if not isinstance(thing, tuple) or len(thing) != 2:
        return False
    if not is_whole(thing[0]) or not is_whole(thing[1]):
        return False
    return thing[1] >= 1 and greatest_divisor(abs(thing[0]), thing[1]) == 1


def number(top, bottom):
    if bottom == 0:
        # The words name no figures: Python refuses to write very long ones.
        raise NoNumber("nothing is told over 0")
    divisor = greatest_divisor(abs(top), abs(bottom))
    if bottom < 0:
        divisor = -divisor
    return (top // divisor, bottom // divisor)


def plus(one, other):
    # Only what divides both bottoms can divide the sum's top and bottom: looking there alone is
    # short where one of the two has few figures, however many the other has.
    shared = greatest_divisor(one[1], other[1])
    top = one[0] * (other[1] // shared) + other[0] * (one[1] // shared)
    divisor = greatest_divisor(abs(top), shared)
    return (top // divisor, one[1] // shared * (other[1] // divisor))


def minus(one, other):
    return plus(one, (-other[0], other[1]))


def times(one, other):
    # A top and its own bottom share nothing, so that what is shared is looked for crosswise.
    first = greatest_divisor(abs(one[0]), other[1])
    second = greatest_divisor(abs(other[0]), one[1])
    return (one[0] // first * (other[0] // second), one[1] // second * (other[1] // first))


def over(one, other):
    if other[0] == 0:
        raise NoNumber("nothing is told over 0")
    turned = (other[1], other[0]) if other[0] > 0 else (-other[1], -other[0])
    return times(one, turned)


def less(one, other):
    # Bottoms are above 0, so the crosswise products stand as the numbers do.
    return one[0] * other[1] < other[0] * one[1]
