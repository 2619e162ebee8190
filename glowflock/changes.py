"""Changes: worms exchanged by an order, and a swarm told as a web."""

from glowflock.errors import NoStand, NoSwarm, NoWeb
from glowflock.numbers import greatest_divisor, is_whole
from glowflock.rules import bend
from glowflock.webs import MOST_ROUND, stand_of, web_of


def is_order(thing, worms):
    # Looked at one by one ahead of sorting, as things of other kinds may not be sorted.
    if not isinstance(thing, list) or not all([is_whole(one) for one in thing]):
        return False
    return sorted(thing) == list(range(worms))


def set_by(order, things):
    told = list(things)
    for worm, thing in zip(order, things):
        told[worm] = thing
    return tuple(told)


def exchanged(swarm, order):
    if not is_order(order, len(swarm[1])):
        raise NoSwarm("this is no order of the swarm's worms")
    return (swarm[0], set_by(order, swarm[1]))


def exchanged_web(web, order):
    if not is_order(order, len(web[0])):
        raise NoWeb("this is no order of the web's worms")
    ties = sorted([(order[tie[0]], order[tie[1]], tie[2]) for tie in web[2]])
    return (set_by(order, web[0]), set_by(order, web[1]), tuple(ties))


def exchanged_stand(stand, order):
    if not is_order(order, len(stand[0])):
        raise NoStand("this is no order of the stand's worms")
    return (set_by(order, stand[0]), tuple([set_by(order, row) for row in stand[1]]))


def least_count(numbers):
    count = 1
    for one in numbers:
        count = count // greatest_divisor(count, one[1]) * one[1]
    return count


def whole_steps(count, one):
    return count // one[1] * one[0]


def all_ties(worms):
    told = []
    for worm in range(worms):
        told.extend([(worm, other, 0) for other in range(worms) if other != worm])
    return told


def as_web(swarm):
    if bend(swarm[0]) != "even":
        raise NoWeb("the rule isn't even")
    count = least_count((swarm[0][1],) + swarm[1])
    # Refused ahead of making the web, as so many ups might not be held.
    if count > MOST_ROUND:
        raise NoWeb("a round would have too many ticks")
    ups = [whole_steps(count, swarm[0][1])] * count
    worms = len(swarm[1])
    web = web_of([count] * worms, [ups] * worms, all_ties(worms))
    return (web, stand_of(web, [whole_steps(count, phase) for phase in swarm[1]]))
