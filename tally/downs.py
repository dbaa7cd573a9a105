"""Downs: what one is, its stands, and what a throw does to them."""

from tally.errors import NoThrow
from tally.wholes import are_wholes, is_whole

# Of sides, begin and turn; each is 1 at least.
DOWN_MOSTS = (3, 1000000, 3)
MOST_THROWS = 30
MOST_SIGNS = 8
MOST_WORTH = 1000000


def is_down(thing):
    if not isinstance(thing, tuple) or len(thing) != 4:
        return False
    return are_wholes(thing[:3], DOWN_MOSTS) and are_throws(thing[3])


def down_begun(down):
    begin = down[1]
    return ((begin,) * down[0], 0, 0, begin)


def down_thrown(down, stand, name):
    throw = throw_named(down, name)
    counts = stand[0]
    side = stand[1]
    thrown = stand[2] + 1
    held = stand[3]
    count = counts[side] - throw[1]
    if count == 0 and throw[2]:
        return ((with_count(counts, side, 0), side, thrown, held), True)
    if count <= 0:
        return (turn_ended(with_count(counts, side, held), side), False)
    counts = with_count(counts, side, count)
    if thrown == down[2]:
        return (turn_ended(counts, side), False)
    return ((counts, side, thrown, held), False)


def are_throws(thing):
    if not isinstance(thing, tuple) or not 1 <= len(thing) <= MOST_THROWS:
        return False
    if not all([is_throw(throw) for throw in thing]):
        return False
    return len(set([throw[0] for throw in thing])) == len(thing)


def is_throw(thing):
    if not isinstance(thing, tuple) or len(thing) != 3:
        return False
    if not is_name(thing[0]) or not is_whole(thing[1], 0, MOST_WORTH):
        return False
    return thing[2] is True or thing[2] is False


def is_name(thing):
    if not isinstance(thing, str) or not 1 <= len(thing) <= MOST_SIGNS:
        return False
    if not "a" <= thing[0] <= "z":
        return False
    return all(["a" <= sign <= "z" or "0" <= sign <= "9" for sign in thing])


def throw_named(down, name):
    for throw in down[3]:
        if throw[0] == name:
            return throw
    raise NoThrow("no throw has this name")


def with_count(counts, side, count):
    return counts[:side] + (count,) + counts[side + 1:]


def turn_ended(counts, side):
    following = (side + 1) % len(counts)
    return (counts, following, 0, counts[following])
