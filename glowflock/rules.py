"""Rules: tuples (a, b) of two numbers; a push makes of x a times x, and b more."""

from glowflock.errors import NoRule
from glowflock.numbers import NOUGHT, ONE, is_number, less, plus, times

GREATEST_FACTOR = (4, 1)
FACTOR_BOTTOM = 8
SHIFT_BOTTOM = 12


def is_factor(a):
    return less(NOUGHT, a) and not less(GREATEST_FACTOR, a) and a[1] <= FACTOR_BOTTOM


def is_shift(b):
    return not less(b, NOUGHT) and not less(ONE, b) and b[1] <= SHIFT_BOTTOM


def make_rule(a, b):
    if not is_number(a) or not is_number(b):
        return False
    return is_factor(a) and is_shift(b) and not less(plus(a, b), ONE)


def is_rule(thing):
    return isinstance(thing, tuple) and len(thing) == 2 and make_rule(thing[0], thing[1])


def rule_of(a, b):
    if not make_rule(a, b):
        raise NoRule("these two make no rule")
    return (a, b)


def bend(rule):
    if less(ONE, rule[0]):
        return "rising"
    if rule[0] == ONE:
        return "even"
    return "falling"


def pushes(rule, many):
    factor = ONE
    shift = NOUGHT
    for done in range(many):
        factor = times(rule[0], factor)
        shift = plus(times(rule[0], shift), rule[1])
    return (factor, shift)


def pushed_by(push, x):
    # For many xs pushed alike: the push, as pushes tells it, is reckoned but once.
    return plus(times(push[0], x), push[1])


def pushed(rule, x, many):
    return pushed_by(pushes(rule, many), x)
