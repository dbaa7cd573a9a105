"""Lasting: how many deeds may still come, or a round that may be played for ever."""

from tally.games import place_of
from tally.places import sources_of, steps_from


def lasting(game, stand, limit=1000):
    steps = steps_from(game, stand, limit)
    ranks = ranks_of(steps)
    if len(ranks) == len(steps):
        return ("ends", ranks)
    return endless(steps, ranks, place_of(game, stand))


# A place gets its rank, the most deeds that may come from there, when all
# places behind its deeds have theirs: so those from which a row of deeds never
# ends get none.
def ranks_of(steps):
    sources = sources_of(steps)
    unranked = dict([(place, len(found)) for place, found in steps.items()])
    waiting = [place for place in steps if unranked[place] == 0]
    ranks = {}
    while len(ranks) < len(waiting):
        place = waiting[len(ranks)]
        ranks[place] = max([ranks[step[1]] + 1 for step in steps[place]], default=0)
        for source in sources[place]:
            unranked[source] -= 1
            if unranked[source] == 0:
                waiting.append(source)
    return ranks


# From a place without a rank some deed leads to another such one: going on by
# these, one of them must come again.
def endless(steps, ranks, place):
    deeds = []
    passed = {}
    while place not in passed:
        passed[place] = len(deeds)
        onward = [step for step in steps[place] if step[1] not in ranks]
        deeds.append(onward[0][0])
        place = onward[0][1]
    begin = passed[place]
    return ("for ever", deeds[:begin], deeds[begin:])
