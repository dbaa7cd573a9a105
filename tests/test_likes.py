import copy
import random
import unittest

from samples import POINT, TENNIS_SET, RefusalCase, rows_for, same, unit
from tally.errors import TooMany
from tally.games import first, place_of, played
from tally.likes import alike
from tally.rules import is_rule
from walks import MOST_LIMIT, SMALL_RULES

# Rules that are alike, a row of them each.
ALIKE = [
    [POINT, unit(), unit(1, 1, 1), unit(1, 9, 1), unit(1, 1, 9), unit(1, 1, 1, unit(4), POINT),
     unit(1, 1, None, unit())],
    [unit(3), unit(3, 1, 3), unit(3, 1, 4), unit(3, 1, 99), unit(3, 7, 3), unit(3, 1, 5, POINT, unit(2)),
     unit(3, 1, 3, POINT, unit()), unit(1, 1, 1, POINT, unit(3)), unit(3, 1, None, unit(1, 1, None, unit()))],
    [unit(2, 2), unit(1, 2), unit(1, 1, None, unit(2, 2)), unit(2, 2, None, unit(1, 1, 1))],
    [unit(3, 2, 5), unit(3, 2, 5, POINT, POINT), unit(3, 2, 5, unit(), None),
     unit(3, 2, 5, POINT, unit()), unit(1, 1, None, unit(3, 2, 5))],
    [unit(2, 2, 3, unit(2), unit(2)), unit(2, 2, 3, unit(2), None), unit(2, 2, 3, unit(2, 1, 2)),
     unit(2, 2, 3, unit(1, 1, None, unit(2)), unit(2, 1, 7))],
    [unit(2, 1, None, unit(1, 2, None, unit(2))), unit(2, 1, 2, unit(2, 2, None, unit(2)), None)],
    [unit(2, 9, 2, unit(1, 2), unit(3, 2, 4)), unit(2, 2, 2, unit(2, 2), unit(3, 2, 4))],
]
# Rules that are unlike in one thing alone, somewhere within.
UNLIKE = [
    (POINT, unit(2)), (unit(2), unit(3)), (unit(2), unit(2, 2)), (unit(4, 2), unit(4, 3)), (unit(4, 2), unit(4, 2, 9)),
    (unit(3, 2, 5), unit(3, 2, 4)), (unit(3, 2, 4), unit(3, 3, 4)), (unit(2, 2), unit(3, 2)), (unit(9), unit(10)),
    (unit(2, 2, 2, POINT, unit(2)), unit(2, 2, 2)), (unit(2, 2, 3, unit(2), unit(2)), unit(2, 2, 3, unit(2), unit(3))),
    (unit(2, 1, None, unit(2)), unit(2, 1, None, unit(2, 2))), (unit(2, 1, None, unit(2)), unit(2, 2, None, unit(2))),
    (unit(1, 2, None, unit(1, 2, None, unit(1, 2))), unit(1, 2, None, unit(1, 2, None, unit(1, 3)))),
    (unit(2, 1, None, unit(2, 1, 2, unit(2), unit(2, 2))), unit(2, 1, None, unit(2, 1, 2, unit(2), unit(2, 2, 3)))),
    (unit(2, 1, None, unit(2, 1, None, unit(2, 1, None, unit(2)))),
     unit(2, 1, None, unit(2, 1, None, unit(2, 1, None, unit(1))))),
    (unit(2, 1, None, unit(3)), unit(3, 1, None, unit(2))), (unit(11, 2, 15), unit(11, 2)),
]


def plain_pairs(one, other, most):
    """The pairs met, as a set; None where they are more."""
    games = (("rally", one), ("rally", other))
    pairs = set()
    ahead = {tuple(place_of(game, first(game)) for game in games)}
    while ahead:
        pairs |= ahead
        if len(pairs) > most:
            return None
        ahead = {
            tuple(place_of(game, played(game, place, side)) for game, place in zip(games, pair))
            for pair in ahead for side in (0, 1) if pair[0][1] is None and pair[1][1] is None
        } - pairs
    return pairs


def is_apart(pair):
    return (pair[0][1] is None) != (pair[1][1] is None)


class Alike(RefusalCase):
    def asked(self, one, other, *limit):
        """Asks, and holds the answer to what is told of one; tells its word."""
        self.assertTrue(is_rule(one) and is_rule(other))
        told = alike(one, other, *limit)
        self.assertIs(type(told), tuple)
        self.assertEqual(len(told), 2)
        self.assertIs(type(told[1]), list)
        pairs = plain_pairs(one, other, *limit or [1000])
        if any(is_apart(pair) for pair in pairs):
            self.assertEqual(told[0], "unlike")
            self.ends_one_sooner(one, other, told[1])
        else:
            self.assertEqual(told[0], "alike")
            self.bear_it_out(one, other, told[1])
        return told[0]

    def ends_one_sooner(self, one, other, row):
        stands = [first(("rally", one)), first(("rally", other))]
        for side in row:
            self.assertTrue(same(side, 0) or same(side, 1))
            self.assertEqual([stand[1] for stand in stands], [None, None])
            stands = [played(("rally", rule), stand, side) for rule, stand in zip((one, other), stands)]
        self.assertTrue(is_apart(stands))

    def bear_it_out(self, one, other, pairs):
        games = (("rally", one), ("rally", other))
        self.assertEqual(len(pairs), len(set(pairs)))
        self.assertIn((first(games[0]), first(games[1])), pairs)
        kept = set(pairs)
        for pair in pairs:
            self.assertIs(type(pair), tuple)
            self.assertEqual(len(pair), 2)
            self.assertFalse(is_apart(pair))
            for game, place in zip(games, pair):
                self.assertTrue(same(place_of(game, place), place))
            if pair[0][1] is None:
                for side in (0, 1):
                    behind = [place_of(game, played(game, place, side)) for game, place in zip(games, pair)]
                    self.assertIn(tuple(behind), kept)

    def test_a_rule_and_itself(self):
        for rule in SMALL_RULES + [TENNIS_SET]:
            self.assertEqual(self.asked(rule, rule), "alike")

    def test_itself_within_a_unit_of_one(self):
        for rule in SMALL_RULES:
            for outer in (unit(1, 1, None, rule), unit(1, 5, 1, rule), unit(1, 1, 1, unit(7), rule)):
                if is_rule(outer):
                    self.assertEqual(self.asked(rule, outer), "alike")
                    self.assertEqual(self.asked(outer, rule), "alike")

    def test_rules_that_are_alike(self):
        for rules in ALIKE:
            for one in rules:
                for other in rules:
                    self.assertEqual(self.asked(one, other), "alike", (one, other))

    def test_rules_that_are_unlike(self):
        for one, other in UNLIKE:
            self.assertEqual(self.asked(one, other), "unlike", (one, other))
            self.assertEqual(self.asked(other, one), "unlike", (one, other))

    def test_rows_that_are_unlike_from_one_another(self):
        for number, rules in enumerate(ALIKE):
            for others in ALIKE[:number]:
                self.assertEqual(self.asked(rules[0], others[0], MOST_LIMIT), "unlike")
                self.assertEqual(self.asked(others[-1], rules[-1], MOST_LIMIT), "unlike")

    def test_told_examples(self):
        self.assertTrue(same(alike(POINT, unit(2)), ("unlike", [0])) or same(alike(POINT, unit(2)), ("unlike", [1])))
        told = alike(POINT, unit())
        self.assertEqual(told[0], "alike")
        self.assertEqual(set(told[1]), {
            (((), None), ((0, 0, ()), None)), (((), (0,)), ((1, 0, ()), (0,))), (((), (1,)), ((0, 1, ()), (1,))),
        })
        told = alike(unit(2, 2, None), unit(2, 2, 3))
        self.assertEqual(told[0], "unlike")
        self.assertEqual(len(told[1]), 5)

    def test_any_two(self):
        rules = SMALL_RULES[:18]
        words = {self.asked(one, other, MOST_LIMIT) for one in rules for other in rules}
        self.assertEqual(words, {"alike", "unlike"})

    def test_no_row_of_deeds_tells_those_apart_that_are_alike(self):
        source = random.Random(79)
        for rules in ALIKE:
            for row in rows_for(source, 60):
                ends = set()
                for rule in rules:
                    stand = first(("rally", rule))
                    number = 0
                    while stand[1] is None and number < len(row):
                        stand = played(("rally", rule), stand, row[number])
                        number += 1
                    ends.add((number, stand[1]))
                self.assertEqual(len(ends), 1, (rules, row))

    def test_just_as_many_as_the_limit(self):
        for one, other in UNLIKE + [(rules[0], rules[-1]) for rules in ALIKE]:
            number = len(plain_pairs(one, other, MOST_LIMIT))
            for limit in (number, number + 1, MOST_LIMIT, MOST_LIMIT + 1):
                self.asked(one, other, limit)
            for limit in (number - 1, 2, 1):
                self.refused(TooMany, alike, one, other, limit)
                self.refused(TooMany, alike, other, one, limit)

    def test_a_thousand_where_it_is_left_out(self):
        self.assertEqual(len(plain_pairs(unit(25, 2, 90), unit(25, 2, 90), MOST_LIMIT)), 1000)
        self.asked(unit(25, 2, 90), unit(25, 2, 90))
        self.assertEqual(len(plain_pairs(unit(20, 5, 71), unit(20, 5, 71), MOST_LIMIT)), 1001)
        self.refused(TooMany, alike, unit(20, 5, 71), unit(20, 5, 71))
        # Of a race to n there are n * n places that are not over, and 2 * n that are.
        self.asked(unit(30), unit(30))
        self.asked(unit(30), unit(30, 1, 30))
        self.refused(TooMany, alike, unit(31), unit(31))
        self.refused(TooMany, alike, unit(31), unit(1, 1, None, unit(31)))
        self.asked(unit(31), unit(31), 1023)
        self.refused(TooMany, alike, unit(31), unit(31), 1022)
        self.asked(unit(53), unit(53), MOST_LIMIT)
        self.refused(TooMany, alike, unit(54), unit(54), MOST_LIMIT)

    def test_too_many_whatever_else_they_tell(self):
        self.refused(TooMany, alike, unit(40), unit(40, 39))
        self.refused(TooMany, alike, unit(40, 2), unit(40, 39))
        self.refused(TooMany, alike, unit(33), unit(34))
        self.refused(TooMany, alike, TENNIS_SET, unit(6, 3, 7, unit(4, 2), unit(7, 2)), 100)
        self.refused(TooMany, alike, unit(2, 2, 2, unit(2), unit(40)), unit(2, 2, 2, unit(2), unit(40, 30)))
        self.assertEqual(self.asked(unit(33), unit(34), MOST_LIMIT), "unlike")

    def test_what_is_handed_in_stays(self):
        for one, other in UNLIKE + [(rules[0], rules[1]) for rules in ALIKE]:
            before = copy.deepcopy((one, other))
            alike(one, other)
            self.assertTrue(same((one, other), before))

    def test_what_is_told_is_the_askers_own(self):
        for one, other in UNLIKE + [(rules[0], rules[1]) for rules in ALIKE]:
            alike(one, other)[1].clear()
            self.asked(one, other)
            told = alike(one, other)[1]
            told.append("more")
            told.reverse()
            self.asked(one, other)


if __name__ == "__main__":
    unittest.main()
