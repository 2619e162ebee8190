"""Webs: worms that push neighbours alone, some ticks later, each at its own pace; and their stands."""

from glowflock.errors import NoStand, NoWeb
from glowflock.numbers import is_whole_from

MOST_WORMS = 8
MOST_ROUND = 60
MOST_UP = 60
MOST_TIES = 60
MOST_DELAY = 4


def is_listed(thing):
    return isinstance(thing, (list, tuple))


def are_whole_from(least, most, thing):
    return is_listed(thing) and all([is_whole_from(least, most, one) for one in thing])


def are_rounds(thing):
    return are_whole_from(1, MOST_ROUND, thing) and 1 <= len(thing) <= MOST_WORMS


def are_ups(thing, rounds):
    if not is_listed(thing) or len(thing) != len(rounds):
        return False
    return all([are_whole_from(0, MOST_UP, own) and len(own) == count for own, count in zip(thing, rounds)])


def is_tie(thing, worms):
    if not is_listed(thing) or len(thing) != 3 or not are_whole_from(0, worms - 1, thing[:2]):
        return False
    return thing[0] != thing[1] and is_whole_from(0, MOST_DELAY, thing[2])


def are_ties(thing, worms):
    if not is_listed(thing) or len(thing) > MOST_TIES or not all([is_tie(tie, worms) for tie in thing]):
        return False
    return len(set([tuple(tie) for tie in thing])) == len(thing)


def web_of(rounds, ups, ties):
    if not are_rounds(rounds):
        raise NoWeb("the first thing isn't the rounds of a web")
    if not are_ups(ups, rounds):
        raise NoWeb("the second thing isn't the ups of such rounds")
    if not are_ties(ties, len(rounds)):
        raise NoWeb("the third thing isn't the ties of such worms")
    return (tuple(rounds), tuple([tuple(own) for own in ups]), tuple(sorted([tuple(tie) for tie in ties])))


def are_web_phases(thing, rounds):
    if not is_listed(thing) or len(thing) != len(rounds):
        return False
    return all([is_whole_from(0, count - 1, phase) for phase, count in zip(thing, rounds)])


def none_coming(web):
    return tuple([0 for worm in web[0]])


def stand_of(web, phases):
    if not are_web_phases(phases, web[0]):
        raise NoStand("these aren't phases of the web's worms")
    return (tuple(phases), tuple([none_coming(web) for delay in range(MOST_DELAY)]))
