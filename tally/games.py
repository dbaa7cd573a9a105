"""Games: rallies, downs and lanes under one form of stands and deeds."""

from tally.downs import down_begun, down_thrown, is_down
from tally.errors import NoSide, Over
from tally.lanes import best_of, is_lane, lane_begun, lane_bowled
from tally.rallies import begun, cut, rallied
from tally.rules import is_rule
from tally.wholes import is_whole


def is_game(thing):
    if not isinstance(thing, tuple) or len(thing) != 2:
        return False
    if thing[0] == "rally":
        return is_rule(thing[1])
    if thing[0] == "down":
        return is_down(thing[1])
    return thing[0] == "lane" and is_lane(thing[1])


def sides_of(game):
    if game[0] == "rally":
        return 2
    return game[1][0]


def first(game):
    if game[0] == "rally":
        return (begun(game[1]), None)
    if game[0] == "down":
        return (down_begun(game[1]), None)
    return (lane_begun(game[1]), None)


def deeds_at(game, stand):
    if stand[1] is not None:
        return []
    if game[0] == "rally":
        return [0, 1]
    if game[0] == "down":
        return [throw[0] for throw in game[1][3]]
    rows = stand[0][0]
    side = stand[0][1]
    return list(range(rows[side][2] + 1))


def played(game, stand, deed):
    if stand[1] is not None:
        raise Over("the game is over")
    if game[0] == "rally":
        return rally_played(game[1], stand[0], deed)
    if game[0] == "down":
        return throw_played(game[1], stand[0], deed)
    return ball_played(game[1], stand[0], deed)


def place_of(game, stand):
    if game[0] == "rally":
        return (cut(game[1], stand[0]), stand[1])
    return stand


def shown(game, stand):
    words = shown_counts(game, stand[0])
    if stand[1] is not None:
        words.append("won")
        words.extend([str(side) for side in stand[1]])
    return " ".join(words)


def rally_played(rule, stand, side):
    if not is_whole(side, 0, 1):
        raise NoSide("a rally is won by side 0 or 1")
    told = rallied(rule, stand, side)
    return (told[0], (side,) if told[1] else None)


def throw_played(down, stand, name):
    told = down_thrown(down, stand, name)
    return (told[0], (stand[1],) if told[1] else None)


def ball_played(lane, stand, pins):
    told = lane_bowled(lane, stand, pins)
    return (told[0], best_of(told[0]) if told[1] else None)


def shown_counts(game, stand):
    if game[0] == "rally":
        return shown_units(stand)
    if game[0] == "down":
        return [str(count) for count in stand[0]]
    return [str(row[6]) for row in stand[0]]


def shown_units(stand):
    # Only a point's stand has no counts at all.
    if stand == ():
        return ["-"]
    words = []
    while stand != ():
        zero = stand[0]
        one = stand[1]
        words.append(f"{zero}-{one}")
        stand = stand[2]
    return words
