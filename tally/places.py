"""Places: those that are met from a stand, and the steps between them."""

from tally.errors import TooMany
from tally.games import deeds_at, place_of, played


def met(game, stand, limit=1000):
    return list(steps_from(game, stand, limit))


# Steps are a dict from each place met, in the order of the walk, to a list of
# tuples: a deed that is let there, and the place behind it.
def steps_from(game, stand, limit):
    return walked(place_of(game, stand), lambda place: steps_at(game, place), limit)


def steps_at(game, place):
    return [(deed, place_of(game, played(game, place, deed))) for deed in deeds_at(game, place)]


# All is walked ahead of any answer: where there are too many, nothing that
# would be found sooner is told.
def walked(start, steps_behind, limit):
    waiting = [start]
    seen = {start: True}
    steps = {}
    while len(steps) < len(waiting):
        if len(waiting) > limit:
            raise TooMany("there are more places than the limit")
        place = waiting[len(steps)]
        found = steps_behind(place)
        steps[place] = found
        for step in found:
            if step[1] not in seen:
                seen[step[1]] = True
                waiting.append(step[1])
    return steps


# From each place to those from which a deed leads to it, one as often as it
# has such deeds.
def sources_of(steps):
    sources = dict([(place, []) for place in steps])
    for place, found in steps.items():
        for step in found:
            sources[step[1]].append(place)
    return sources
