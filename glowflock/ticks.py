"""Ticks: what a web does, tick by tick, from one of its stands."""

from glowflock.webs import none_coming


def moved_up(count, ups, phase, many):
    for done in range(many):
        # What comes once the round has ended is lost.
        if phase >= count:
            return phase
        phase += ups[phase]
    return phase


def ended(web, worms, phases):
    return tuple([worm for worm in worms if phases[worm] >= web[0][worm]])


def ties_from(web, worms):
    return [tie for tie in web[2] if tie[0] in worms]


def count_to(ties, worm, delay):
    return len([tie for tie in ties if tie[1] == worm and tie[2] == delay])


def coming_behind(web, coming, glowed):
    ties = ties_from(web, glowed)
    told = []
    for delay, row in enumerate(coming[1:] + (none_coming(web),), start=1):
        told.append(tuple([many + count_to(ties, worm, delay) for worm, many in enumerate(row)]))
    return tuple(told)


def phases_at_first(web, stand):
    told = []
    for worm, many in enumerate(stand[1][0]):
        told.append(moved_up(web[0][worm], web[1][worm], stand[0][worm] + 1, many))
    return told


def tick(web, stand):
    phases = phases_at_first(web, stand)
    worms = list(range(len(phases)))
    left = worms
    waves = []
    wave = ended(web, left, phases)
    while wave:
        waves.append(wave)
        left = [worm for worm in left if worm not in wave]
        ties = ties_from(web, wave)
        for worm in left:
            phases[worm] = moved_up(web[0][worm], web[1][worm], phases[worm], count_to(ties, worm, 0))
        wave = ended(web, left, phases)
    anew = tuple([phases[worm] if worm in left else 0 for worm in worms])
    glowed = [worm for worm in worms if worm not in left]
    return (tuple(waves), (anew, coming_behind(web, stand[1], glowed)))


def run(web, stand, many):
    told = []
    ahead = stand
    for count in range(1, many + 1):
        both = tick(web, ahead)
        ahead = both[1]
        if both[0]:
            told.append((count, both[0]))
    return told


def stand_behind(web, stand, many):
    told = stand
    for done in range(many):
        told = tick(web, told)[1]
    return told
