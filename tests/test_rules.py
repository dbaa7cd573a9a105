import copy
import unittest

from tally.rules import depth_of, is_rule

POINT = ("point",)
GREAT = 10 ** 60 - 1


def unit(to=1, lead=1, cap=None, inner=POINT, last=None):
    return ("unit", to, lead, cap, inner, last)


def nest(depth, by_last=False):
    rule = POINT
    for _ in range(depth):
        rule = unit(cap=1, last=rule) if by_last else unit(inner=rule)
    return rule


def full(depth):
    if depth == 0:
        return POINT
    return unit(2, 1, 3, full(depth - 1), full(depth - 1))


# Seven units fill three levels; one above them with one more row makes the rest.
TEN = unit(1, 1, 1, full(3), unit(1, 1, None, unit()))
ELEVEN = unit(1, 1, 1, full(3), unit(1, 1, 1, unit(), unit()))

RULES = [
    POINT,
    unit(),
    unit(99, 99),
    unit(11, 2),
    unit(1, 99, 1),
    unit(99, 1, 99),
    unit(6, 2, 7, unit(4, 2), unit(7, 2)),
    unit(6, 2, 7, unit(4, 2), POINT),
    unit(6, 2, 7, POINT, unit(7, 2)),
    unit(6, 2, 7, unit(4, 2), None),
    unit(21, 2, 30),
    unit(3, 1, None, unit(6, 2, 7, unit(4, 2), unit(7, 2))),
    nest(2), nest(3), nest(4),
    nest(2, True), nest(3, True), nest(4, True),
    full(2), full(3), TEN,
]

NO_NUMBERS = [True, False, "1", "", "one", None, [], [1], (1,), (), POINT]
NO_RULES = [
    None, True, False, 0, 1, -1, GREAT, -GREAT, "", "point", "unit", "unit 1 1 - point -",
    (), [], ((),), [[]], (None,), ["point"], [POINT], (POINT,), ("point", "point"), ("points",), ("Point",),
    ("point", None), ("unit",), (1,), (True,), ("",), [("unit", 1, 1, None, POINT, None)],
    ["unit", 1, 1, None, POINT, None], ("unit", 1, 1, None, ["point"], None),
]


class IsRule(unittest.TestCase):
    def holds(self, thing):
        self.assertIs(is_rule(thing), True, thing)

    def fails(self, thing):
        self.assertIs(is_rule(thing), False, thing)

    def test_rules_of_all_shapes(self):
        for rule in RULES:
            self.holds(rule)

    def test_bounds_of_to_and_lead(self):
        for number in [1, 2, 9, 10, 98, 99]:
            self.holds(unit(to=number))
            self.holds(unit(lead=number))
        for number in [0, -1, 100, 101, GREAT, -GREAT] + NO_NUMBERS:
            self.fails(unit(to=number))
            self.fails(unit(lead=number))
            self.fails(unit(to=number, cap=99))
            self.fails(unit(lead=number, cap=99))

    def test_bounds_of_cap(self):
        for to in [1, 2, 50, 98, 99]:
            self.holds(unit(to=to, cap=to))
            self.holds(unit(to=to, cap=99))
            self.holds(unit(to=to, cap=to, last=POINT))
            self.fails(unit(to=to, cap=to - 1))
            self.fails(unit(to=to, cap=to - 1, last=POINT))
            self.fails(unit(to=to, cap=100))
        for cap in [0, -1, 100, GREAT, -GREAT] + [thing for thing in NO_NUMBERS if thing is not None]:
            self.fails(unit(cap=cap))
            self.fails(unit(cap=cap, last=POINT))

    def test_lead_may_be_above_to_and_cap(self):
        self.holds(unit(to=1, lead=99, cap=1))

    def test_inner_and_last_must_be_rules(self):
        for thing in NO_RULES:
            self.fails(unit(inner=thing))
            self.fails(unit(cap=1, inner=thing, last=POINT))
            self.fails(unit(inner=unit(inner=thing)))
            if thing is not None:
                self.fails(unit(cap=1, last=thing))
                self.fails(unit(cap=1, last=unit(cap=1, last=thing)))

    def test_last_only_with_a_cap(self):
        self.fails(unit(cap=None, last=POINT))
        self.fails(unit(cap=None, last=unit()))
        self.fails(unit(inner=unit(cap=None, last=POINT)))
        self.fails(unit(cap=1, last=unit(cap=None, last=POINT)))
        self.holds(unit(cap=1, last=None))

    def test_wrong_lengths_and_first_words(self):
        whole = unit(1, 1, 1, POINT, POINT)
        for length in range(6):
            self.fails(whole[:length])
        self.fails(whole + (None,))
        self.fails(whole + whole)
        for first in ["point", "Unit", "units", "", None, 1, True, ("unit",), ["unit"]]:
            self.fails((first,) + whole[1:])

    def test_a_list_is_no_tuple(self):
        self.fails(list(unit()))
        self.fails(["point"])
        self.fails(unit(inner=list(unit())))
        self.fails(unit(cap=1, last=list(unit())))
        self.fails(unit(cap=1, last=["point"]))

    def test_at_most_three_others_around(self):
        self.holds(nest(4))
        self.fails(nest(5))
        self.holds(nest(4, True))
        self.fails(nest(5, True))
        self.fails(nest(9))
        self.fails(nest(12, True))
        self.fails(unit(cap=1, inner=POINT, last=nest(4)))
        self.fails(unit(cap=1, inner=nest(4), last=POINT))
        self.holds(unit(cap=1, inner=nest(3), last=nest(3, True)))

    def test_at_most_ten_units_each_as_often_as_it_stands_there(self):
        self.holds(TEN)
        self.fails(ELEVEN)
        self.fails(full(4))
        pair = unit(1, 1, 1, unit(), unit())
        self.holds(unit(1, 1, 1, pair, pair))
        four = unit(1, 1, 1, pair, POINT)
        self.holds(unit(1, 1, 1, four, four))
        five = unit(1, 1, 1, pair, unit())
        self.fails(unit(1, 1, 1, five, five))

    def test_other_things(self):
        for thing in NO_RULES:
            self.fails(thing)
            self.fails((thing, thing))
            self.fails([thing])

    def test_things_that_share_parts_far_down(self):
        thing = POINT
        for _ in range(60):
            thing = ("unit", 1, 1, 1, thing, thing)
        self.fails(thing)

    def test_what_is_handed_in_stays(self):
        things = RULES + NO_RULES + [unit(inner=list(unit()))]
        before = copy.deepcopy(things)
        for thing in things:
            is_rule(thing)
        self.assertEqual(things, before)


class DepthOf(unittest.TestCase):
    def test_point(self):
        self.assertEqual(depth_of(POINT), 0)

    def test_units_within_inner(self):
        for depth in range(1, 5):
            self.assertEqual(depth_of(nest(depth)), depth)

    def test_units_within_last(self):
        for depth in range(1, 5):
            self.assertEqual(depth_of(nest(depth, True)), depth)

    def test_the_deeper_one_counts(self):
        self.assertEqual(depth_of(unit(1, 1, 1, POINT, nest(3))), 4)
        self.assertEqual(depth_of(unit(1, 1, 1, nest(3), POINT)), 4)
        self.assertEqual(depth_of(unit(1, 1, 1, nest(1), nest(2))), 3)
        self.assertEqual(depth_of(unit(1, 1, 1, nest(2), nest(1))), 3)
        self.assertEqual(depth_of(unit(1, 1, 1, nest(2), nest(2))), 3)
        self.assertEqual(depth_of(unit(1, 1, 1, nest(2), None)), 3)
        self.assertEqual(depth_of(TEN), 4)

    def test_a_whole_number(self):
        for rule in RULES:
            self.assertIs(type(depth_of(rule)), int)


if __name__ == "__main__":
    unittest.main()
