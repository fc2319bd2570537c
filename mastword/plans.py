"""Plans: the beats on which keepers act, each from a first beat on."""

from mastword.errors import BadCount, NoMast
from mastword.ways import FEWEST_MASTS, MOST_MASTS

MOST_SIGNS = 60
LAST_FIRST_BEAT = 1000


def check_plan(signs, wakes):
    """Refuse a plan whose places, signs or first beats are out of bounds."""
    # The numbers are left out: Python refuses to write very large ones.
    if not FEWEST_MASTS <= len(wakes) <= MOST_MASTS:
        raise BadCount("a plan has 2 to 12 places")
    if not 0 <= signs <= MOST_SIGNS:
        raise BadCount("a plan has 0 to 60 signs")
    if not all(1 <= wake <= LAST_FIRST_BEAT for wake in wakes):
        raise BadCount("a first beat is a number from 1 to 1000")


def times(signs, wakes):
    """For each sign a pair of lists by places: the beats of raising and of lowering."""
    check_plan(signs, wakes)
    beats = []
    # All arms rest ahead of the first beat, as if they had been lowered on beat 0.
    lowered = [0] * len(wakes)
    for sign in range(signs):
        raised = next_acts(wakes, lowered)
        lowered = next_acts(wakes, raised)
        beats.append((raised, lowered))
    return beats


def next_acts(wakes, acted):
    """The beats, by places, of each keeper's next act, from those of the acts before it.

    Raising and lowering wait for the same things: that the mast behind has done this very act, and that
    the mast itself and the one ahead have done the act before it. Each of these, once so, stays so until
    the keeper acts; so that is done on the beat behind the last of them, or on the first beat if it is later.
    """
    beats = []
    # The first place has none behind and the last one none ahead: there the slice has the place itself alone.
    behind = 0
    for place, wake in enumerate(wakes):
        before = max(acted[place:place + 2])
        behind = max(wake, behind + 1, before + 1)
        beats.append(behind)
    return beats


def through(signs, wakes):
    """The beat behind which all arms rest and nothing waits, 0 where there is no sign."""
    beats = times(signs, wakes)
    if not beats:
        return 0
    # A sign is lowered place by place, and the last sign last of all.
    raised, lowered = beats[-1]
    return lowered[-1]


def latest(signs, wakes, place):
    """The greatest first beat of a place with which the plan is through no later than it is."""
    end = through(signs, wakes)
    if not 0 <= place < len(wakes):
        raise NoMast("the plan has no such place")
    low = wakes[place]
    high = LAST_FIRST_BEAT
    # A later first beat never lets a plan be through earlier, so halving finds the greatest one.
    while low < high:
        middle = (low + high + 1) // 2
        tried = list(wakes)
        tried[place] = middle
        if through(signs, tried) <= end:
            low = middle
        else:
            high = middle - 1
    return low
