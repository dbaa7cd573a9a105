import copy
import itertools
import random
import unittest

from samples import GREAT, NO_NUMBERS, THINGS, same
from tally.downs import down_begun, down_thrown, is_down
from tally.errors import NoThrow, ScoreError

NAMES = ["a", "z", "a0", "a9", "abcdefgh", "z9999999", "d20", "bull", "miss"]
NO_NAMES = [
    "", "abcdefghi", "a" * 2000, "A", "Z", "aB", "aZ", "abcdefgH", "a b", " a", "a ", " ", "0", "9", "1a", "20",
    "a_", "_a", "a-b", "a:", "a!", "a.", "a/", "a@", "a[", "a`", "`a", "a{", "{a", "~", "\u00e4", "a\u00e4", "\u03b1",
    "a\u0663", "a\u00b2", "\u00df", "a\t", "a\n", None, True, False, 0, 1, ("a",), ["a"], (), [],
]


def throw(name="a", worth=1, ends=True):
    return (name, worth, ends)


def down(sides=2, begin=101, turn=3, throws=(("one", 1, False), ("bull", 50, True))):
    return (sides, begin, turn, throws)


def some_throws(number):
    return tuple((f"t{place}", place, place % 2 == 0) for place in range(number))


SMALL = (
    ("one", 1, False), ("two", 2, True), ("four", 4, False), ("nil", 0, True), ("six", 6, True), ("zero", 0, False),
)
DOWNS = [
    (sides, begin, turn, throws)
    for sides in (1, 2, 3) for turn in (1, 2, 3) for begin in (1, 2, 7, 12) for throws in (SMALL, SMALL[:2], SMALL[1:4])
]
BEGINNINGS = (("t1", 1, False), ("t", 2, True), ("t12", 3, False), ("t123", 4, True), ("t2", 5, True))


def sheet(game, names):
    """The stand behind a row of names and whether it is won, read turn by turn from the first name on."""
    sides, begin, turn, throws = game
    worths = {name: worth for name, worth, ends in throws}
    enders = [name for name, worth, ends in throws if ends]
    counts = [begin] * sides
    names = list(names)
    for side in itertools.cycle(range(sides)):
        held = counts[side]
        for thrown in range(1, turn + 1):
            if not names:
                return (tuple(counts), side, thrown - 1, held), False
            name = names.pop(0)
            rest = counts[side] - worths[name]
            if rest == 0 and name in enders:
                counts[side] = 0
                return (tuple(counts), side, thrown, held), True
            if rest < 1:
                counts[side] = held
                break
            counts[side] = rest


class DownCase(unittest.TestCase):
    def told(self, found, wanted):
        self.assertTrue(same(found, wanted), (found, wanted))

    def holds(self, thing):
        self.assertIs(is_down(thing), True, thing)

    def fails(self, thing):
        self.assertIs(is_down(thing), False, thing)


class IsDown(DownCase):
    def test_sides_begin_and_turn_within_their_bounds(self):
        for number in (1, 2, 3):
            self.holds(down(sides=number))
            self.holds(down(turn=number))
        for begin in (1, 2, 501, 999999, 1000000):
            self.holds(down(begin=begin))

    def test_sides_begin_and_turn_beyond_their_bounds(self):
        for number in [0, 4, 5, -1, -3, GREAT, -GREAT] + NO_NUMBERS:
            self.fails(down(sides=number))
            self.fails(down(turn=number))
        for begin in [0, -1, 1000001, 2000000, GREAT, -GREAT] + NO_NUMBERS:
            self.fails(down(begin=begin))

    def test_how_many_throws(self):
        for number in (1, 2, 29, 30):
            self.holds(down(throws=some_throws(number)))
        for number in (0, 31, 32, 60):
            self.fails(down(throws=some_throws(number)))

    def test_throws_are_a_tuple_of_tuples(self):
        self.fails(down(throws=list(some_throws(1))))
        self.fails(down(throws=[]))
        self.fails(down(throws=some_throws(2) + (["x", 1, True],)))
        self.fails(down(throws=(["x", 1, True],)))
        self.fails(down(throws=throw()))
        for thing in THINGS:
            self.fails(down(throws=thing))
            if not same(thing, throw()):
                self.fails(down(throws=(thing,)))
                self.fails(down(throws=some_throws(3) + (thing,)))

    def test_a_throw_has_three_things(self):
        self.fails(down(throws=(("a", 1),)))
        self.fails(down(throws=(("a",),)))
        self.fails(down(throws=((),)))
        self.fails(down(throws=(("a", 1, True, True),)))
        self.fails(down(throws=(("a", 1, True, None),)))
        self.fails(down(throws=(throw("b"), ("a", 1))))

    def test_names(self):
        for name in NAMES:
            self.holds(down(throws=(throw(name),)))
            self.holds(down(throws=(throw("other"), throw(name))))
        for letter in "abcdefghijklmnopqrstuvwxyz":
            self.holds(down(throws=(throw(letter), throw("x" + letter))))
        for figure in "0123456789":
            self.holds(down(throws=(throw("x" + figure),)))
            self.fails(down(throws=(throw(figure),)))
            self.fails(down(throws=(throw(figure + "x"),)))
        for name in NO_NAMES:
            self.fails(down(throws=(throw(name),)))
            self.fails(down(throws=(throw("other"), throw(name))))
            self.fails(down(throws=(throw(name), throw("other"))))

    def test_no_other_sign_in_a_name(self):
        for code in range(256):
            sign = chr(code)
            if sign not in "abcdefghijklmnopqrstuvwxyz":
                self.fails(down(throws=(throw(sign),)))
                if sign not in "0123456789":
                    self.fails(down(throws=(throw("x" + sign + "x"),)))

    def test_names_are_unlike(self):
        self.fails(down(throws=(throw("a"), throw("a"))))
        self.fails(down(throws=(throw("a", 1, True), throw("a", 2, False))))
        self.fails(down(throws=(throw("a"), throw("b"), throw("a"))))
        self.fails(down(throws=(throw("b"), throw("a"), throw("a"))))
        self.fails(down(throws=some_throws(29) + (throw("t0"),)))
        self.holds(down(throws=(throw("a"), throw("aa"), throw("a1"), throw("a11"))))

    def test_worths(self):
        for worth in (0, 1, 2, 999999, 1000000):
            self.holds(down(throws=(throw(worth=worth),)))
        for worth in [-1, -2, 1000001, GREAT, -GREAT] + NO_NUMBERS:
            self.fails(down(throws=(throw(worth=worth),)))
            self.fails(down(throws=(throw("b"), throw(worth=worth))))

    def test_ends(self):
        for ends in (True, False):
            self.holds(down(throws=(throw(ends=ends),)))
        for ends in [0, 1, 2, -1] + [thing for thing in NO_NUMBERS if thing is not True and thing is not False]:
            self.fails(down(throws=(throw(ends=ends),)))
            self.fails(down(throws=(throw("b"), throw(ends=ends))))

    def test_four_things_in_a_tuple(self):
        whole = down()
        for length in range(4):
            self.fails(whole[:length])
        self.fails(whole[1:])
        self.fails(whole + (None,))
        self.fails(whole + (whole[3],))
        self.fails(list(whole))
        self.fails((whole,))

    def test_other_things(self):
        for thing in THINGS + NAMES + NO_NAMES:
            self.fails(thing)
            self.fails((thing, thing, thing, thing))
            self.fails([thing])

    def test_what_is_handed_in_stays(self):
        things = THINGS + [list(down()), down(throws=list(some_throws(3))), down(throws=(["a", 1, True],)), down()]
        before = copy.deepcopy(things)
        for thing in things:
            is_down(thing)
        self.assertTrue(same(things, before))


class Begun(DownCase):
    def test_begun(self):
        self.told(down_begun(down(sides=1, begin=1)), ((1,), 0, 0, 1))
        self.told(down_begun(down(sides=2, begin=501)), ((501, 501), 0, 0, 501))
        self.told(down_begun(down(sides=3, begin=1000000)), ((1000000,) * 3, 0, 0, 1000000))


class Thrown(DownCase):
    def throws(self, game, names, wanted, won=False):
        stand, ended = down_begun(game), False
        for name in names:
            self.assertIs(ended, False)
            stand, ended = down_thrown(game, stand, name)
        self.told((stand, ended), (wanted, won))

    def test_a_turn_goes_on_and_ends_by_its_throws(self):
        game = (2, 20, 3, SMALL)
        self.throws(game, ["one"], ((19, 20), 0, 1, 20))
        self.throws(game, ["one", "two"], ((17, 20), 0, 2, 20))
        self.throws(game, ["one", "two", "four"], ((13, 20), 1, 0, 20))
        self.throws(game, ["one", "two", "four", "six"], ((13, 14), 1, 1, 20))
        self.throws(game, ["one", "two", "four", "six", "six", "one"], ((13, 7), 0, 0, 13))
        self.throws((2, 20, 1, SMALL), ["one"], ((19, 20), 1, 0, 20))
        self.throws((2, 20, 2, SMALL), ["one", "four"], ((15, 20), 1, 0, 20))
        self.throws((1, 20, 2, SMALL), ["one", "four"], ((15,), 0, 0, 15))

    def test_behind_the_last_side_comes_the_first(self):
        game = (3, 20, 1, SMALL)
        self.throws(game, ["one", "two"], ((19, 18, 20), 2, 0, 20))
        self.throws(game, ["one", "two", "four"], ((19, 18, 16), 0, 0, 19))
        self.throws(game, ["one", "two", "four", "six"], ((13, 18, 16), 1, 0, 18))

    def test_busts_below_nought(self):
        self.throws((2, 3, 3, SMALL), ["four"], ((3, 3), 1, 0, 3))
        self.throws((2, 3, 3, SMALL), ["one", "four"], ((3, 3), 1, 0, 3))
        self.throws((2, 3, 3, SMALL), ["one", "one", "six"], ((3, 3), 1, 0, 3))
        self.throws((2, 3, 1, SMALL), ["one", "one", "six"], ((2, 2), 1, 0, 2))
        self.throws((1, 3, 3, SMALL), ["one", "one", "two"], ((3,), 0, 0, 3))

    def test_busts_at_nought(self):
        self.throws((2, 4, 3, SMALL), ["four"], ((4, 4), 1, 0, 4))
        self.throws((2, 5, 3, SMALL), ["one", "four"], ((5, 5), 1, 0, 5))
        self.throws((2, 6, 3, SMALL), ["one", "one", "four"], ((6, 6), 1, 0, 6))
        self.throws((2, 6, 3, SMALL), ["two", "four"], ((6, 6), 1, 0, 6))

    def test_a_bust_takes_back_this_turn_alone(self):
        game = (1, 12, 2, SMALL)
        self.throws(game, ["one", "two", "four", "six"], ((9,), 0, 0, 9))
        self.throws(game, ["one", "two", "four", "six", "six"], ((3,), 0, 1, 9))

    def test_a_bust_leaves_the_other_sides(self):
        game = (3, 6, 2, SMALL)
        self.throws(game, ["one", "one", "two", "one", "one", "six"], ((4, 3, 6), 0, 0, 4))
        self.throws(game, ["one", "one", "two", "two", "six"], ((4, 2, 0), 2, 1, 6), True)

    def test_a_win_at_each_throw_of_a_turn(self):
        self.throws((2, 2, 3, SMALL), ["two"], ((0, 2), 0, 1, 2), True)
        self.throws((2, 3, 3, SMALL), ["one", "two"], ((0, 3), 0, 2, 3), True)
        self.throws((2, 4, 3, SMALL), ["one", "one", "two"], ((0, 4), 0, 3, 4), True)
        self.throws((2, 2, 1, SMALL), ["one", "two"], ((1, 0), 1, 1, 2), True)
        self.throws((1, 2, 1, SMALL), ["two"], ((0,), 0, 1, 2), True)
        self.throws((3, 2, 1, SMALL), ["one", "one", "two"], ((1, 1, 0), 2, 1, 2), True)

    def test_a_throw_that_ends_need_not_be_the_last(self):
        self.throws((1, 7, 3, SMALL), ["two", "six"], ((7,), 0, 0, 7))
        self.throws((1, 8, 3, SMALL), ["two", "six"], ((0,), 0, 2, 8), True)

    def test_throws_of_worth_nought(self):
        for name in ("nil", "zero"):
            self.throws((2, 1, 2, SMALL), [name], ((1, 1), 0, 1, 1))
            self.throws((2, 1, 2, SMALL), [name, name], ((1, 1), 1, 0, 1))
            self.throws((2, 2, 2, SMALL), [name, "two"], ((0, 2), 0, 2, 2), True)

    def test_names_that_are_beginnings_of_one_another(self):
        game = (1, 50, 3, BEGINNINGS)
        for name, worth, ends in BEGINNINGS:
            self.throws(game, [name], ((50 - worth,), 0, 1, 50))

    def test_great_numbers(self):
        game = (1, 1000000, 1, (("all", 1000000, True), ("most", 999999, False)))
        self.throws(game, ["all"], ((0,), 0, 1, 1000000), True)
        self.throws(game, ["most"], ((1,), 0, 0, 1))
        self.throws(game, ["most", "most"], ((1,), 0, 0, 1))

    def test_each_short_row(self):
        for game in [(sides, 5, turn, SMALL[:4]) for sides in (1, 2, 3) for turn in (1, 2, 3)]:
            for row in itertools.product([name for name, worth, ends in game[3]], repeat=5):
                self.follows(game, row)

    def test_many_rows(self):
        source = random.Random(29)
        won = 0
        for game in DOWNS + [(2, 30, 3, BEGINNINGS)]:
            for _ in range(8):
                won += self.follows(game, [source.choice(game[3])[0] for _ in range(60)])
        self.assertGreater(won, 300)

    def follows(self, game, row):
        stand, won = down_begun(game), False
        for number, name in enumerate(row, 1):
            stand, won = down_thrown(game, stand, name)
            self.told((stand, won), sheet(game, row[:number]))
            if won:
                break
        return won

    def test_what_is_handed_in_stays(self):
        game = (2, 20, 3, SMALL)
        stand = down_begun(game)
        before = copy.deepcopy((game, stand))
        told = down_thrown(game, stand, "two")
        kept = copy.deepcopy(told)
        down_thrown(game, stand, "six")
        down_thrown(game, told[0], "six")
        self.assertTrue(same((game, stand), before))
        self.assertTrue(same(told, kept))
        self.assertTrue(same(down_thrown(game, stand, "two"), kept))


class Refused(DownCase):
    def refused(self, game, stand, name):
        before = copy.deepcopy((game, stand, name))
        with self.assertRaises(NoThrow, msg=repr(name)) as caught:
            down_thrown(game, stand, name)
        self.assertIs(type(caught.exception), NoThrow)
        self.assertIsInstance(caught.exception, ScoreError)
        self.assertTrue(same((game, stand, name), before))

    def test_names_that_no_throw_has(self):
        game = (2, 20, 3, SMALL)
        for name in ["three", "on", "onee", "one ", " one", "oneone", "One", "ONE", "wo", "tw", "twoo", "", "t", "2"]:
            self.refused(game, down_begun(game), name)
        game = (2, 20, 3, BEGINNINGS)
        for name in ["t3", "t13", "t1234", "t11", "tt", "1", "t12 "]:
            self.refused(game, down_begun(game), name)

    def test_things_that_are_no_text(self):
        game = (2, 20, 3, SMALL)
        stand = down_thrown(game, down_begun(game), "four")[0]
        no_texts = [thing for thing in THINGS if not isinstance(thing, str)]
        for thing in no_texts + [("one",), ["one"], ["one", 1, False], ("one", 1, False), SMALL, 3, 4, 6]:
            self.refused(game, stand, thing)
            self.refused(game, down_begun(game), thing)

    def test_the_stand_is_played_on_as_before(self):
        game = (2, 20, 3, SMALL)
        stand = down_thrown(game, down_begun(game), "four")[0]
        self.refused(game, stand, "five")
        self.refused(game, stand, 4)
        self.told(down_thrown(game, stand, "six"), (((10, 20), 0, 2, 20), False))

    def test_a_stand_of_which_each_throw_would_bust(self):
        game = (2, 1, 3, (("six", 6, True),))
        self.refused(game, down_begun(game), "seven")
        self.told(down_thrown(game, down_begun(game), "six"), (((1, 1), 1, 0, 1), False))


if __name__ == "__main__":
    unittest.main()
