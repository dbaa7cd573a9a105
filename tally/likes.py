"""Likeness: whether two rules of rallies are over behind the same rows of deeds."""

from tally.ends import row_to
from tally.games import first, place_of
from tally.places import steps_at, walked


def alike(one, other, limit=1000):
    games = (("rally", one), ("rally", other))
    start = tuple([place_of(game, first(game)) for game in games])
    steps = walked(start, lambda pair: pair_steps(games, pair), limit)
    row = row_to(steps, start, [pair for pair in steps if is_apart(pair)])
    if row is None:
        return ("alike", list(steps))
    return ("unlike", row)


# Where one of both is over, it has no steps, and so the pair has none.
def pair_steps(games, pair):
    ones = steps_at(games[0], pair[0])
    others = steps_at(games[1], pair[1])
    return [(one[0], (one[1], other[1])) for one, other in zip(ones, others)]


def is_apart(pair):
    return (pair[0][1] is None) != (pair[1][1] is None)
