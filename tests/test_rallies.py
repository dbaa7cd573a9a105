import copy
import itertools
import random
import unittest

from samples import POINT, RULES, TENNIS_SET, count_units, read_row, rows_for, same, unit
from tally.rallies import begun, cut, rallied
from tally.rules import depth_of, is_rule

SMALL_RULES = [
    POINT, unit(), unit(2), unit(2, 2), unit(1, 3), unit(3, 2, 4), unit(2, 9, 3), unit(1, 1, 1, POINT, POINT),
    unit(2, 2, None, unit(1, 2)), unit(2, 1, 2, unit(2), unit(1, 2)), unit(2, 2, 3, POINT, unit(2, 2)),
    unit(1, 1, 1, unit(2), unit(1, 1, 1, unit(3), unit(2, 2))), unit(1, 2, None, unit(2, 9, 2, POINT, unit(2))),
]


def along(rule, row):
    """The stands behind each rally of a row, up to its end or the rule's."""
    stand = begun(rule)
    for side in row:
        stand, won = rallied(rule, stand, side)
        yield stand, won
        if won:
            return


def behind(rule, row):
    return list(along(rule, row))[-1]


def lessened(rule, stand, won):
    """A stand cut by a plain reading: as often as it may be, one is taken from both counts."""
    if rule == POINT:
        return ()
    to, lead, cap, inner, last = rule[1:]
    zero, one, within = stand
    if not won:
        is_last = last is not None and (zero, one) == (cap - 1, cap - 1)
        within = lessened(last if is_last else inner, within, False)
    while cap is None and zero > to - 1 and one > to - 1:
        zero, one = zero - 1, one - 1
    return (zero, one, within)


class RallyCase(unittest.TestCase):
    def told(self, found, wanted):
        self.assertTrue(same(found, wanted), (found, wanted))


class Samples(unittest.TestCase):
    def test_the_rules_are_of_all_shapes(self):
        self.assertTrue(all(is_rule(rule) for rule in RULES + SMALL_RULES))
        self.assertEqual({count_units(rule) for rule in RULES}, set(range(8)))
        self.assertEqual({depth_of(rule) for rule in RULES}, set(range(5)))


class Begun(RallyCase):
    def test_point(self):
        self.told(begun(POINT), ())

    def test_units_within_one_another(self):
        self.told(begun(unit()), (0, 0, ()))
        self.told(begun(unit(9, 2, 11)), (0, 0, ()))
        self.told(begun(unit(2, 1, None, unit(3))), (0, 0, (0, 0, ())))
        self.told(begun(unit(2, 1, None, unit(3, 1, None, unit()))), (0, 0, (0, 0, (0, 0, ()))))
        self.told(begun(TENNIS_SET), (0, 0, (0, 0, ())))

    def test_four_units_within_one_another(self):
        rule = unit(inner=unit(inner=unit(inner=unit())))
        self.told(begun(rule), (0, 0, (0, 0, (0, 0, (0, 0, ())))))

    def test_last_is_played_at_once_where_cap_is_one(self):
        self.told(begun(unit(1, 1, 1, POINT, unit())), (0, 0, (0, 0, ())))
        self.told(begun(unit(1, 1, 1, unit(), POINT)), (0, 0, ()))
        self.told(begun(unit(1, 1, 1, unit(), unit(2, 1, None, unit()))), (0, 0, (0, 0, (0, 0, ()))))
        inner = unit(1, 1, 1, unit(), POINT)
        self.told(begun(unit(2, 1, None, inner)), (0, 0, (0, 0, ())))
        self.told(begun(unit(1, 1, 1, POINT, inner)), (0, 0, (0, 0, ())))

    def test_inner_is_played_where_cap_is_one_and_no_last_told(self):
        self.told(begun(unit(1, 1, 1, unit(), None)), (0, 0, (0, 0, ())))
        self.told(begun(unit(1, 1, 1, POINT, None)), (0, 0, ()))

    def test_inner_is_played_first_where_cap_is_above_one(self):
        self.told(begun(unit(1, 1, 2, POINT, unit())), (0, 0, ()))
        self.told(begun(unit(2, 1, 2, unit(), POINT)), (0, 0, (0, 0, ())))

    def test_as_a_plain_reading_tells(self):
        for rule in RULES + SMALL_RULES:
            self.told(begun(rule), read_row(rule, [])[0])


class Rallied(RallyCase):
    def test_a_point_is_won_by_each_rally(self):
        for side in (0, 1):
            self.told(rallied(POINT, (), side), ((), True))

    def test_a_rally_counts_for_its_side(self):
        self.told(rallied(unit(3), (0, 0, ()), 0), ((1, 0, ()), False))
        self.told(rallied(unit(3), (0, 0, ()), 1), ((0, 1, ()), False))
        self.told(rallied(unit(3), (1, 2, ()), 0), ((2, 2, ()), False))

    def test_won_at_to_with_lead_one(self):
        for side in (0, 1):
            self.told(rallied(unit(), (0, 0, ()), side), ((1 - side, side, ()), True))
        self.told(rallied(unit(3), (2, 2, ()), 0), ((3, 2, ()), True))
        self.told(rallied(unit(3), (2, 2, ()), 1), ((2, 3, ()), True))
        self.told(rallied(unit(3), (1, 2, ()), 1), ((1, 3, ()), True))

    def test_won_with_at_least_to_and_lead_above(self):
        rule = unit(4, 2)
        self.told(rallied(rule, (3, 2, ()), 0), ((4, 2, ()), True))
        self.told(rallied(rule, (2, 3, ()), 1), ((2, 4, ()), True))
        self.told(rallied(rule, (3, 0, ()), 0), ((4, 0, ()), True))
        self.told(rallied(rule, (4, 3, ()), 0), ((5, 3, ()), True))
        self.told(rallied(rule, (8, 9, ()), 1), ((8, 10, ()), True))

    def test_one_short_of_lead(self):
        rule = unit(4, 2)
        self.told(rallied(rule, (3, 3, ()), 0), ((4, 3, ()), False))
        self.told(rallied(rule, (3, 3, ()), 1), ((3, 4, ()), False))
        self.told(rallied(unit(1, 3), (1, 0, ()), 0), ((2, 0, ()), False))
        self.told(rallied(unit(1, 3), (2, 0, ()), 0), ((3, 0, ()), True))

    def test_one_short_of_to(self):
        self.told(rallied(unit(4, 2), (2, 0, ()), 0), ((3, 0, ()), False))
        self.told(rallied(unit(4, 2), (0, 2, ()), 1), ((0, 3, ()), False))

    def test_the_side_behind_comes_nearer(self):
        self.told(rallied(unit(4, 2), (4, 3, ()), 1), ((4, 4, ()), False))
        self.told(rallied(unit(4, 3), (3, 5, ()), 0), ((4, 5, ()), False))

    def test_won_at_the_cap(self):
        self.told(rallied(unit(3, 2, 5), (4, 4, ()), 0), ((5, 4, ()), True))
        self.told(rallied(unit(3, 2, 5), (4, 4, ()), 1), ((4, 5, ()), True))
        self.told(rallied(unit(3, 2, 5), (3, 3, ()), 1), ((3, 4, ()), False))
        self.told(rallied(unit(3, 2, 5), (3, 4, ()), 1), ((3, 5, ()), True))
        self.told(rallied(unit(3, 9, 3), (2, 2, ()), 0), ((3, 2, ()), True))
        self.told(rallied(unit(1, 99, 1), (0, 0, ()), 1), ((0, 1, ()), True))

    def test_won_below_the_cap(self):
        self.told(rallied(unit(3, 2, 5), (2, 1, ()), 0), ((3, 1, ()), True))

    def test_a_unit_within_that_is_won_begins_anew(self):
        rule = unit(2, 1, None, unit(2))
        self.told(rallied(rule, (0, 1, (0, 1, ())), 0), ((0, 1, (1, 1, ())), False))
        self.told(rallied(rule, (0, 1, (1, 1, ())), 0), ((1, 1, (0, 0, ())), False))
        self.told(rallied(rule, (0, 1, (1, 1, ())), 1), ((0, 2, ()), True))

    def test_last_is_played_where_both_counts_are_one_short_of_cap(self):
        rule = unit(2, 2, 3, POINT, unit(2))
        self.told(behind(rule, [0, 1, 0]), ((2, 1, ()), False))
        self.told(behind(rule, [0, 1, 0, 1]), ((2, 2, (0, 0, ())), False))
        self.told(behind(rule, [0, 1, 0, 1, 1]), ((2, 2, (0, 1, ())), False))
        self.told(behind(rule, [0, 1, 0, 1, 1, 1]), ((2, 3, ()), True))
        self.told(behind(rule, [0, 1, 0, 1, 1, 0, 0]), ((3, 2, ()), True))

    def test_last_is_played_nowhere_else(self):
        rule = unit(3, 9, 3, POINT, unit(5))
        self.told(behind(rule, [0, 1]), ((1, 1, ()), False))
        self.told(behind(rule, [0, 0]), ((2, 0, ()), False))
        self.told(behind(rule, [0, 0, 1]), ((2, 1, ()), False))
        self.told(behind(rule, [0, 0, 1, 1]), ((2, 2, (0, 0, ())), False))
        self.told(behind(unit(3, 9, 3, POINT, None), [0, 0, 1, 1]), ((2, 2, ()), False))

    def test_a_point_as_last(self):
        rule = unit(2, 1, 2, unit(3), POINT)
        self.told(behind(rule, [0, 0, 0, 1, 1, 1]), ((1, 1, ()), False))
        self.told(behind(rule, [0, 0, 0, 1, 1, 1, 1]), ((1, 2, ()), True))

    def test_within_is_empty_behind_the_end(self):
        rule = unit(1, 1, None, unit(1, 1, None, unit(1, 1, None, unit())))
        for side in (0, 1):
            self.told(rallied(rule, begun(rule), side), ((1 - side, side, ()), True))

    def test_a_tiebreak(self):
        games = [[side] * 4 for side in (0, 1) * 6]
        row = [side for game in games for side in game]
        self.told(behind(TENNIS_SET, row), ((6, 6, (0, 0, ())), False))
        self.told(behind(TENNIS_SET, row + [0] * 4), ((6, 6, (4, 0, ())), False))
        self.told(behind(TENNIS_SET, row + [0] * 7), ((7, 6, ()), True))
        self.told(behind(TENNIS_SET, row[:-8] + [1] * 8), ((5, 7, ()), True))

    def test_what_is_told_is_a_tuple_of_two(self):
        for rule in RULES:
            told = rallied(rule, begun(rule), 0)
            self.assertIs(type(told), tuple)
            self.assertEqual(len(told), 2)
            self.assertIs(type(told[0]), tuple)
            self.assertIn(type(told[1]), (bool,))

    def test_each_short_row_as_a_plain_reading_tells(self):
        for rule in SMALL_RULES:
            for row in itertools.product((0, 1), repeat=9):
                self.follows(rule, row, 1)

    def test_many_rows_as_a_plain_reading_tells(self):
        source = random.Random(11)
        for rule in RULES:
            for row in rows_for(source, 40):
                self.follows(rule, row, 1)

    def test_long_rows_as_a_plain_reading_tells(self):
        source = random.Random(13)
        ended = 0
        for rule in RULES:
            for row in rows_for(source, 400):
                ended += self.follows(rule, row, 37)
        self.assertGreater(ended, 2 * len(RULES))

    def follows(self, rule, row, step):
        won = False
        for number, (stand, won) in enumerate(along(rule, row), 1):
            if won or number % step == 0:
                wanted, winner = read_row(rule, row[:number])
                self.told((stand, won), (wanted, winner is not None))
                if won:
                    self.assertEqual(winner, row[number - 1])
        return won

    def test_what_is_handed_in_stays(self):
        for rule in RULES:
            stand = begun(rule)
            before = copy.deepcopy((rule, stand))
            first = rallied(rule, stand, 0)
            kept = copy.deepcopy(first)
            rallied(rule, stand, 1)
            cut(rule, stand)
            self.assertTrue(same((rule, stand), before))
            self.assertTrue(same(first, kept))
            self.assertTrue(same(rallied(rule, stand, 0), kept))


class Cut(RallyCase):
    def test_point(self):
        self.told(cut(POINT, ()), ())

    def test_the_lesser_count_below_at_and_above(self):
        rule = unit(4, 2)
        self.told(cut(rule, (0, 0, ())), (0, 0, ()))
        self.told(cut(rule, (2, 2, ())), (2, 2, ()))
        self.told(cut(rule, (3, 2, ())), (3, 2, ()))
        self.told(cut(rule, (3, 3, ())), (3, 3, ()))
        self.told(cut(rule, (4, 3, ())), (4, 3, ()))
        self.told(cut(rule, (3, 4, ())), (3, 4, ()))
        self.told(cut(rule, (4, 4, ())), (3, 3, ()))
        self.told(cut(rule, (5, 4, ())), (4, 3, ()))
        self.told(cut(rule, (4, 5, ())), (3, 4, ()))
        self.told(cut(rule, (40, 41, ())), (3, 4, ()))

    def test_to_is_one(self):
        rule = unit(1, 4)
        self.told(cut(rule, (0, 3, ())), (0, 3, ()))
        self.told(cut(rule, (1, 1, ())), (0, 0, ()))
        self.told(cut(rule, (5, 8, ())), (0, 3, ()))

    def test_units_with_a_cap_are_never_lessened(self):
        for rule in (unit(3, 2, 9), unit(3, 2, 9, POINT, POINT), unit(1, 9, 9)):
            for counts in ((2, 2), (3, 3), (4, 3), (7, 8), (8, 8)):
                self.told(cut(rule, counts + ((),)), counts + ((),))

    def test_units_within_one_another(self):
        free, capped = unit(2, 2), unit(2, 2, 9)
        self.told(cut(unit(2, 2, None, free), (4, 4, (3, 2, ()))), (1, 1, (2, 1, ())))
        self.told(cut(unit(2, 2, None, capped), (4, 4, (3, 2, ()))), (1, 1, (3, 2, ())))
        self.told(cut(unit(2, 2, 9, free), (4, 4, (3, 2, ()))), (4, 4, (2, 1, ())))
        self.told(cut(unit(2, 2, 9, capped), (4, 4, (3, 2, ()))), (4, 4, (3, 2, ())))
        self.told(cut(unit(2, 2, None, unit(2, 2, 9, free)), (4, 3, (5, 5, (3, 2, ())))), (2, 1, (5, 5, (2, 1, ()))))

    def test_what_stands_within_goes_by_the_rule_that_is_played(self):
        rule = unit(2, 1, 2, unit(2, 2), unit(4, 2))
        self.told(cut(rule, (0, 1, (4, 4, ()))), (0, 1, (1, 1, ())))
        self.told(cut(rule, (1, 1, (4, 4, ()))), (1, 1, (3, 3, ())))
        rule = unit(2, 1, 2, unit(2, 2), unit(2, 2, 9))
        self.told(cut(rule, (1, 0, (4, 4, ()))), (1, 0, (1, 1, ())))
        self.told(cut(rule, (1, 1, (4, 4, ()))), (1, 1, (4, 4, ())))

    def test_won_stands(self):
        self.told(cut(unit(4, 2), (4, 2, ())), (4, 2, ()))
        self.told(cut(unit(4, 2), (5, 3, ())), (5, 3, ()))
        self.told(cut(unit(4, 2), (6, 4, ())), (5, 3, ()))
        self.told(cut(unit(4, 2), (7, 9, ())), (3, 5, ()))
        self.told(cut(unit(2, 2, None, unit(2, 2)), (4, 2, ())), (3, 1, ()))
        self.told(cut(unit(2, 2, 5, unit(2, 2)), (5, 4, ())), (5, 4, ()))
        self.told(cut(unit(2, 2, 5, unit(2, 2), unit(2, 2)), (4, 5, ())), (4, 5, ()))

    def test_many_stands_by_a_plain_reading(self):
        source = random.Random(17)
        lessened_ones = 0
        for rule in RULES + SMALL_RULES:
            for row in rows_for(source, 120):
                for stand, won in along(rule, row):
                    short = cut(rule, stand)
                    self.told(short, lessened(rule, stand, won))
                    self.told(cut(rule, short), short)
                    lessened_ones += short != stand
        self.assertGreater(lessened_ones, 1000)

    def test_each_row_ends_a_stand_and_the_same_one_cut_at_the_same_rally(self):
        source = random.Random(19)
        unlike = 0
        for rule in RULES + SMALL_RULES:
            for row in rows_for(source, 60):
                stands = [stand for stand, won in along(rule, row) if not won and cut(rule, stand) != stand]
                for stand in stands[:1] + stands[-1:]:
                    unlike += 1
                    for coming in rows_for(source, 40):
                        self.goes_on_alike(rule, stand, cut(rule, stand), coming)
        self.assertGreater(unlike, 100)

    def goes_on_alike(self, rule, one, other, row):
        for side in row:
            one, one_won = rallied(rule, one, side)
            other, other_won = rallied(rule, other, side)
            self.assertIs(one_won, other_won)
            self.told(cut(rule, one), cut(rule, other))
            if one_won:
                return


if __name__ == "__main__":
    unittest.main()
