"""Stakes: how many units would be won by the next rally."""

from tally.rallies import played_now, rallied
from tally.rules import POINT


def stakes(rule, stand, side):
    if rule == POINT:
        return 0
    within = stakes(played_now(rule, stand[0], stand[1]), stand[2], side)
    # A unit is won only together with the one that is played within it.
    if rallied(rule, stand, side)[1]:
        return within + 1
    return within
