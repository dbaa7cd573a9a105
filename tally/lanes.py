"""Lanes: what one is, its stands, and what a ball does to them."""

from tally.errors import NoPins
from tally.wholes import are_wholes, is_whole

# Of sides, pins and frames; each is 1 at least.
LANE_MOSTS = (3, 20, 12)


def is_lane(thing):
    return isinstance(thing, tuple) and len(thing) == 3 and are_wholes(thing, LANE_MOSTS)


def lane_begun(lane):
    row = (0, 0, lane[1], 0, 0, 0, 0)
    return ((row,) * lane[0], 0)


def lane_bowled(lane, stand, pins):
    rows = stand[0]
    side = stand[1]
    row = rows[side]
    if not is_whole(pins, 0, row[2]):
        raise NoPins("no such number of pins is up")
    bowled = frame_ball(lane, row, pins) if row[5] == 0 else extra_ball(lane, row, pins)
    rows = rows[:side] + (bowled,) + rows[side + 1:]
    # A turn ends just where a frame is done.
    if bowled[0] > row[0]:
        side = (side + 1) % lane[0]
    return ((rows, side), is_over(lane, rows))


def best_of(stand):
    totals = [row[6] for row in stand[0]]
    best = max(totals)
    return tuple([side for side, total in enumerate(totals) if total == best])


def frame_ball(lane, row, pins):
    done = row[0]
    ball = row[1] + 1
    up = row[2] - pins
    total = row[6] + pins * row[3] + pins
    if up > 0 and ball == 1:
        return (done, ball, up, row[4], 0, 0, total)
    earned = earned_by(ball, up)
    next_times = row[4] + (1 if earned > 0 else 0)
    after_times = 1 if earned == 2 else 0
    if earned > 0 and done == lane[2] - 1:
        return (done, 0, lane[1], next_times, after_times, earned, total)
    return (done + 1, 0, lane[1], next_times, after_times, 0, total)


def earned_by(ball, up):
    if up > 0:
        return 0
    return 2 if ball == 1 else 1


def extra_ball(lane, row, pins):
    extra = row[5] - 1
    total = row[6] + pins * row[3]
    if extra == 0:
        return (row[0] + 1, row[1], lane[1], row[4], 0, 0, total)
    up = row[2] - pins
    if up == 0:
        up = lane[1]
    return (row[0], row[1], up, row[4], 0, extra, total)


def is_over(lane, rows):
    return all([row[0] == lane[2] for row in rows])
