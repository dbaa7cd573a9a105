"""Rallies: the stands of a rule, what a rally does to one, and how one is cut."""

from tally.rules import POINT


def begun(rule):
    if rule == POINT:
        return ()
    return begun_within(rule, 0, 0)


def rallied(rule, stand, side):
    if rule == POINT:
        return ((), True)
    zero = stand[0]
    one = stand[1]
    told = rallied(played_now(rule, zero, one), stand[2], side)
    if not told[1]:
        return ((zero, one, told[0]), False)
    if side == 0:
        zero += 1
    else:
        one += 1
    if is_won(rule, zero, one):
        return ((zero, one, ()), True)
    return (begun_within(rule, zero, one), False)


def cut(rule, stand):
    # A point's stand is (), and so is what stands within a unit that is won.
    if stand == ():
        return ()
    zero = stand[0]
    one = stand[1]
    within = cut(played_now(rule, zero, one), stand[2])
    too_many = cut_off(rule, min(zero, one))
    return (zero - too_many, one - too_many, within)


def played_now(rule, zero, one):
    last = rule[5]
    # Where there is a last, there is a cap.
    if last is not None and zero == one == rule[3] - 1:
        return last
    return rule[4]


def begun_within(rule, zero, one):
    return (zero, one, begun(played_now(rule, zero, one)))


def is_won(rule, zero, one):
    most = max(zero, one)
    if most == rule[3]:
        return True
    return most >= rule[1] and abs(zero - one) >= rule[2]


def cut_off(rule, lesser):
    if rule[3] is not None:
        return 0
    return max(0, lesser - (rule[1] - 1))
