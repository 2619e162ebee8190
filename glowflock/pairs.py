"""Pairs: two flocks, and all places from which so many of their rounds are free."""

from glowflock.numbers import NOUGHT, ONE, less, minus, over
from glowflock.rounds import round_map
from glowflock.rules import pushes


def ahead_of(push, x):
    # The one number that the push, as pushes tells it, leads to x.
    return over(minus(x, push[1]), push[0])


def greater_of(one, other):
    return other if less(one, other) else one


def lesser_of(one, other):
    return other if less(other, one) else one


def free_ends(rule, sizes, whole):
    # The second flock stands 1 less x up at the first glow, so its top bounds x from below.
    low = minus(ONE, ahead_of(pushes(rule, sizes[0]), ONE))
    return (greater_of(NOUGHT, low), lesser_of(ONE, ahead_of(whole, ONE)))


def stretch(rule, sizes, many):
    both = round_map(rule, sizes)
    whole = (both[0], both[1][0])
    ends = free_ends(rule, sizes, whole)
    # The first and the last round are asked alone: those between are free where these two are.
    last = pushes(whole, many - 1)
    low = greater_of(ends[0], ahead_of(last, ends[0]))
    high = lesser_of(ends[1], ahead_of(last, ends[1]))
    return (low, high) if less(low, high) else None
