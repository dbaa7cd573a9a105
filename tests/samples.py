"""What several tests draw on: things of all kinds, rules of rallies, and rows of rallies."""

import copy
import random
import unittest

POINT = ("point",)
GREAT = 10 ** 60 - 1


def deep(kind):
    thing = kind()
    for _ in range(11):
        thing = kind([thing])
    return thing


# Things that are no whole numbers, and look like one or stand where one ought to.
NO_NUMBERS = [True, False, None, "", "0", "1", "2", "one", (), (1,), (0, 1), [], [0], [1], [[1]], POINT]
THINGS = NO_NUMBERS + [
    0, 1, 2, -1, 100, GREAT, -GREAT, "point", "unit", "rally", "down", "lane", "rally point", "~", " ", "x" * 2000,
    (None,), ((),), [None], [()], ("point", "point"), ["point"], ("unit", 1, 1, None, POINT, None),
    (1, 1, 1), (1, 1, 1, 1), [1, 1, 1], ("rally",), ("a", 1, True), [("a", 1, True)], ("rally", None),
    deep(tuple), deep(list), tuple(range(299)), list(range(299)),
]


def same(one, other):
    # Truths equal 0 and 1 for Python, so kinds are asked for as well.
    if type(one) is not type(other):
        return False
    if isinstance(one, (tuple, list)):
        return len(one) == len(other) and all(same(a, b) for a, b in zip(one, other))
    return one == other


class RefusalCase(unittest.TestCase):
    def refused(self, refusal, ask, *handed):
        """Asked, it refuses by just this class and leaves what is handed in; tells the refusal."""
        before = copy.deepcopy(handed)
        with self.assertRaises(refusal, msg=repr(handed)) as caught:
            ask(*handed)
        self.assertIs(type(caught.exception), refusal)
        self.assertTrue(same(handed, before))
        return caught.exception


def unit(to=1, lead=1, cap=None, inner=POINT, last=None):
    return ("unit", to, lead, cap, inner, last)


def count_units(rule):
    if rule is None or rule == POINT:
        return 0
    return 1 + count_units(rule[4]) + count_units(rule[5])


def any_rule(source, room):
    if room == 0 or source.random() < 0.25:
        return POINT
    to = source.randint(1, 3)
    cap = source.choice([None, to, to + 1, to + source.randint(0, 3)])
    last = None if cap is None or source.random() < 0.3 else any_rule(source, room - 1)
    return unit(to, source.randint(1, 3), cap, any_rule(source, room - 1), last)


def many_rules():
    """Rules of none to seven units, at most four within one another."""
    source = random.Random(7)
    found = {units: [] for units in range(8)}
    found[0] = [POINT]
    while any(len(rules) < 12 for units, rules in found.items() if units > 0):
        rule = any_rule(source, 4)
        rules = found.get(count_units(rule), [])
        if 0 < count_units(rule) and len(rules) < 12 and rule not in rules:
            rules.append(rule)
    return [rule for rules in found.values() for rule in rules]


TENNIS_SET = unit(6, 2, 7, unit(4, 2), unit(7, 2))
RULES = many_rules() + [
    unit(), unit(3), unit(2, 2), unit(1, 3), unit(5, 1), unit(3, 5), unit(11, 2), unit(4, 2),
    unit(1, 1, 1), unit(1, 9, 1), unit(2, 9, 2), unit(2, 9, 4), unit(3, 2, 5), unit(21, 2, 30),
    unit(1, 1, 1, POINT, POINT), unit(1, 2, 3, POINT, unit(2, 2)), unit(2, 2, 2, unit(2), unit(3)),
    TENNIS_SET, unit(2, 1, None, TENNIS_SET), unit(2, 1, 2, unit(6, 2, 7, unit(4, 2), None), unit(10, 2)),
    unit(2, 2, None, unit(2, 2, None, unit(2, 2, None, unit(2, 2)))),
    unit(1, 1, 1, unit(9), unit(1, 1, 1, unit(8), unit(1, 1, 1, unit(7), unit(2)))),
]


def rows_for(source, length):
    """Rows of rallies: even ones, such as one side leads, and such as swing to and fro for long."""
    rows = [[int(source.random() < bias) for _ in range(length)] for bias in (0.5, 0.2, 0.8)]
    for noise in (0.0, 0.1, 0.3):
        rows.append([number % 2 ^ int(source.random() < noise) for number in range(length)])
    return rows


def is_won_by(rule, count, other):
    to, lead, cap = rule[1:4]
    return count >= to and count - other >= lead or cap is not None and count >= cap


def read_rallies(rule, rallies, wins):
    """The stand that the rest of a row leads to from the first one on, and who has won it (None: nobody).

    rallies is walked as far as the rule is played; wins gets a side for each unit that is won.
    """
    if rule == POINT:
        return (), next(rallies, None)
    to, lead, cap, inner, last = rule[1:]
    counts = [0, 0]
    while True:
        is_last = cap is not None and last is not None and counts == [cap - 1, cap - 1]
        within, winner = read_rallies(last if is_last else inner, rallies, wins)
        if winner is None:
            return (counts[0], counts[1], within), None
        counts[winner] += 1
        if is_won_by(rule, counts[winner], counts[1 - winner]):
            wins.append(winner)
            return (counts[0], counts[1], ()), winner


def read_row(rule, row):
    return read_rallies(rule, iter(row), [])


def wins_by_the_last(rule, row):
    before, behind = [], []
    read_rallies(rule, iter(row[:-1]), before)
    read_rallies(rule, iter(row), behind)
    return len(behind) - len(before)
