"""Rules of rallies: whether a thing is one, and how deep one is."""

from tally.wholes import is_whole

MOST = 99
MOST_UNITS = 10
MOST_DEPTH = 4
POINT = ("point",)


def is_rule(thing):
    units = units_of(thing, MOST_DEPTH)
    return units is not None and units <= MOST_UNITS


def depth_of(rule):
    if rule == POINT:
        return 0
    depth = depth_of(rule[4])
    if rule[5] is not None:
        depth = max(depth, depth_of(rule[5]))
    return depth + 1


# None stands for a thing that is no rule. The room left for units within one
# another bounds the walk, however deep or often shared the parts of a thing are.
def units_of(thing, room):
    if thing == POINT:
        return 0
    if room == 0 or not has_unit_form(thing):
        return None
    inner = units_of(thing[4], room - 1)
    last = 0
    if thing[5] is not None:
        last = units_of(thing[5], room - 1)
    if inner is None or last is None:
        return None
    return 1 + inner + last


# All that is asked of a unit but whether inner and last are rules themselves.
def has_unit_form(thing):
    if not isinstance(thing, tuple) or len(thing) != 6 or thing[0] != "unit":
        return False
    to = thing[1]
    cap = thing[3]
    if not is_whole(to, 1, MOST) or not is_whole(thing[2], 1, MOST):
        return False
    if cap is None:
        return thing[5] is None
    return is_whole(cap, to, MOST)
