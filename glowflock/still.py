"""Still places, to which a round leads back, and many rounds one behind the other."""

from glowflock.errors import TooLong
from glowflock.numbers import NOUGHT, ONE, less, minus, over, plus, times
from glowflock.rounds import is_free, round_map, round_time, tops
from glowflock.rules import bend, pushed

MOST_FREE = 30


def still(rule, sizes):
    both = round_map(rule, sizes)
    if both[0] == ONE:
        return None
    gap = minus(ONE, both[0])
    return tuple([over(shift, gap) for shift in both[1]])


def led_on(both, places, many):
    # A round, told as round_map tells it, moves each place as a push does: by a factor and a shift.
    return tuple([pushed((both[0], shift), place, many) for place, shift in zip(places, both[1])])


def rounds_behind(rule, sizes, places, many):
    return led_on(round_map(rule, sizes), places, many)


def sums_of_places(both, places, many):
    told = tuple([NOUGHT for place in places])
    ahead = places
    for done in range(many):
        told = tuple([plus(total, place) for total, place in zip(told, ahead)])
        ahead = led_on(both, ahead, 1)
    return told


def rounds_time(rule, sizes, places, many):
    if many < 1:
        return NOUGHT
    # The time of a round goes evenly with each place, so one round of the mean places stands for
    # all of them; walking each one would take long where the places have many figures.
    count = (many, 1)
    mean = tuple([over(total, count) for total in sums_of_places(round_map(rule, sizes), places, many)])
    return times(count, round_time(rule, sizes, mean))


def stays_free(rule, sizes, places):
    # Asked of places whose first round is free.
    way = bend(rule)
    if way == "rising":
        return tuple(places) == still(rule, sizes)
    if way == "even":
        return all([shift == NOUGHT for shift in round_map(rule, sizes)[1]])
    return not any([less(ONE, top) for top in tops(rule, sizes, still(rule, sizes))])


def free_rounds(rule, sizes, places):
    if not is_free(rule, sizes, places):
        return 0
    if stays_free(rule, sizes, places):
        return None
    both = round_map(rule, sizes)
    ahead = places
    for count in range(1, MOST_FREE + 1):
        ahead = led_on(both, ahead, 1)
        if not is_free(rule, sizes, ahead):
            return count
    raise TooLong("more rounds are free than are counted, but not all")
