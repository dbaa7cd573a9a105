"""Wins: whether a side can still win, borne out by a row of deeds or by places."""

from tally.ends import row_to
from tally.errors import NoSide
from tally.games import place_of, sides_of
from tally.places import steps_from


def can_win(game, stand, side, limit=1000):
    if not 0 <= side < sides_of(game):
        raise NoSide("the game has no such side")
    steps = steps_from(game, stand, limit)
    wins = [place for place in steps if has_won(place, side)]
    row = row_to(steps, place_of(game, stand), wins)
    if row is None:
        return ("never", list(steps))
    return ("row", row)


def has_won(place, side):
    return place[1] is not None and side in place[1]
