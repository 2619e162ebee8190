"""Still places, to which a round leads back, and many rounds one behind the other."""

from glowflock.errors import TooLong
from glowflock.numbers import NOUGHT, ONE, less, minus, over, plus, times
from glowflock.rounds import is_free, round_map, round_time, tops
from glowflock.rules import bend, pushes

MOST_FREE = 30


def still(rule, sizes):
    both = round_map(rule, sizes)
    if both[0] == ONE:
        return None
    gap = minus(ONE, both[0])
    return tuple([over(shift, gap) for shift in both[1]])


def weighed(both, places, of_place, of_shift):
    return tuple([plus(times(of_place, place), times(of_shift, shift)) for place, shift in zip(places, both[1])])


def led_on(both, places, many):
    # A round, told as round_map tells it, moves each place as a push does. With 1 in the shift's
    # place the pushes tell how often each shift comes in, so that they are reckoned but once.
    push = pushes((both[0], ONE), many)
    return weighed(both, places, push[0], push[1])


def rounds_behind(rule, sizes, places, many):
    return led_on(round_map(rule, sizes), places, many)


def sums_of_places(both, places, many):
    of_place = NOUGHT
    of_shift = NOUGHT
    for done in range(many):
        # How often the shift is in the places ahead of a round is the sum of the powers so far.
        of_shift = plus(of_shift, of_place)
        of_place = plus(times(both[0], of_place), ONE)
    return weighed(both, places, of_place, of_shift)


def rounds_time(rule, sizes, places, many):
    if many < 1:
        return NOUGHT
    # The time of a round goes evenly with each place, so one round of the mean places stands for
    # all of them; walking each one would take long where the places have many figures.
    count = (many, 1)
    mean = tuple([over(total, count) for total in sums_of_places(round_map(rule, sizes), places, many)])
    return times(count, round_time(rule, sizes, mean))


def draws_freely(rule, sizes):
    # Asked of falling rules: rounds that draw near the still places never come to a top of 1.
    return not any([less(ONE, top) for top in tops(rule, sizes, still(rule, sizes))])


def stays_free(rule, sizes, places):
    # Asked of places whose first round is free.
    way = bend(rule)
    if way == "rising":
        return tuple(places) == still(rule, sizes)
    if way == "even":
        return all([shift == NOUGHT for shift in round_map(rule, sizes)[1]])
    return draws_freely(rule, sizes)


def free_rounds(rule, sizes, places):
    if not is_free(rule, sizes, places):
        return 0
    if stays_free(rule, sizes, places):
        return None
    both = round_map(rule, sizes)
    ahead = places
    for count in range(1, MOST_FREE + 1):
        ahead = led_on(both, ahead, 1)
        if not is_free(rule, sizes, ahead):
            return count
    raise TooLong("more rounds are free than are counted, but not all")
