"""Ends: how soon a game may be over from its places, and by which row of deeds."""

from tally.games import place_of
from tally.places import sources_of, steps_from


def soonest(game, stand, limit=1000):
    steps = steps_from(game, stand, limit)
    return fewest(steps, ends_among(steps))


def soonest_row(game, stand, limit=1000):
    steps = steps_from(game, stand, limit)
    return row_to(steps, place_of(game, stand), ends_among(steps))


def ends_among(steps):
    return [place for place in steps if place[1] is not None]


# From each place the fewest deeds to one of the goals, None where no row of
# deeds leads to one. It goes back from the goals, the nearer places first.
def fewest(steps, goals):
    sources = sources_of(steps)
    numbers = dict([(place, None) for place in steps])
    for goal in goals:
        numbers[goal] = 0
    waiting = list(goals)
    at = 0
    while at < len(waiting):
        place = waiting[at]
        for source in sources[place]:
            if numbers[source] is None:
                numbers[source] = numbers[place] + 1
                waiting.append(source)
        at += 1
    return numbers


# A shortest row of deeds from a place to one of the goals, None where there is none.
def row_to(steps, place, goals):
    numbers = fewest(steps, goals)
    if numbers[place] is None:
        return None
    row = []
    while numbers[place] > 0:
        nearer = [step for step in steps[place] if numbers[step[1]] == numbers[place] - 1]
        row.append(nearer[0][0])
        place = nearer[0][1]
    return row
