import copy
import random
import unittest

from samples import POINT, RULES, TENNIS_SET, rows_for, same, unit, wins_by_the_last
from tally.rallies import begun, cut, rallied
from tally.stakes import stakes


class Stakes(unittest.TestCase):
    def are(self, rule, stand, zero, one):
        for side, wanted in ((0, zero), (1, one)):
            found = stakes(rule, stand, side)
            self.assertIs(type(found), int)
            self.assertEqual(found, wanted, (rule, stand, side))

    def test_point(self):
        self.are(POINT, (), 0, 0)

    def test_none_or_one_unit(self):
        self.are(unit(4, 2), (0, 0, ()), 0, 0)
        self.are(unit(4, 2), (3, 1, ()), 1, 0)
        self.are(unit(4, 2), (1, 3, ()), 0, 1)
        self.are(unit(4, 2), (3, 3, ()), 0, 0)
        self.are(unit(4, 2), (4, 3, ()), 1, 0)
        self.are(unit(4, 2), (7, 8, ()), 0, 1)
        self.are(unit(), (0, 0, ()), 1, 1)
        self.are(unit(3, 2, 4), (3, 3, ()), 1, 1)

    def test_several_units_at_once(self):
        match = unit(2, 1, None, TENNIS_SET)
        self.are(match, (0, 0, (0, 0, (0, 0, ()))), 0, 0)
        self.are(match, (0, 0, (2, 1, (3, 0, ()))), 1, 0)
        self.are(match, (0, 0, (5, 4, (3, 0, ()))), 2, 0)
        self.are(match, (0, 0, (5, 5, (3, 0, ()))), 1, 0)
        self.are(match, (1, 0, (5, 4, (3, 0, ()))), 3, 0)
        self.are(match, (0, 1, (5, 4, (3, 0, ()))), 2, 0)
        self.are(match, (0, 1, (2, 5, (1, 3, ()))), 0, 3)
        self.are(match, (0, 1, (2, 5, (3, 1, ()))), 1, 0)
        self.are(match, (1, 1, (6, 6, (3, 6, ()))), 0, 3)
        self.are(match, (1, 1, (6, 6, (3, 0, ()))), 0, 0)

    def test_both_sides_may_have_stakes(self):
        rule = unit(3, 1, None, unit(2, 2, 3))
        self.are(rule, (2, 1, (2, 2, ())), 2, 1)
        self.are(rule, (2, 2, (2, 2, ())), 2, 2)

    def test_an_outer_unit_alone_is_no_stake(self):
        rule = unit(2, 1, None, unit(3))
        self.are(rule, (1, 1, (0, 0, ())), 0, 0)
        self.are(rule, (1, 1, (2, 1, ())), 2, 0)

    def test_four_units_at_once(self):
        rule = unit(inner=unit(inner=unit(inner=unit())))
        self.are(rule, begun(rule), 4, 4)
        rule = unit(2, 1, None, unit(inner=unit(inner=unit())))
        self.are(rule, begun(rule), 3, 3)

    def test_the_rule_that_is_played_now(self):
        rule = unit(1, 1, 1, unit(9), unit(1, 1, 1, unit(9), POINT))
        self.are(rule, begun(rule), 2, 2)
        rule = unit(2, 1, 2, unit(1), unit(9))
        self.are(rule, (0, 0, (0, 0, ())), 1, 1)
        self.are(rule, (1, 0, (0, 0, ())), 2, 1)
        self.are(rule, (1, 1, (0, 0, ())), 0, 0)

    def test_as_a_plain_reading_of_rows_tells(self):
        source = random.Random(23)
        several = 0
        for rule in RULES:
            for row in rows_for(source, 30):
                stand, won = begun(rule), False
                for number, side in enumerate(row):
                    counts = [wins_by_the_last(rule, row[:number] + [other]) for other in (0, 1)]
                    self.are(rule, stand, counts[0], counts[1])
                    self.are(rule, cut(rule, stand), counts[0], counts[1])
                    several += max(counts) > 1
                    stand, won = rallied(rule, stand, side)
                    if won:
                        break
        self.assertGreater(several, 100)

    def test_what_is_handed_in_stays(self):
        for rule in RULES:
            stand = begun(rule)
            before = copy.deepcopy((rule, stand))
            stakes(rule, stand, 0)
            stakes(rule, stand, 1)
            self.assertTrue(same((rule, stand), before))


if __name__ == "__main__":
    unittest.main()
