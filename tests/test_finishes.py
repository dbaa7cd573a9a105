import copy
import itertools
import unittest

from samples import same
from tally.downs import down_thrown
from tally.errors import ScoreError, TooMany
from tally.finishes import finishes

MIXED = (
    ("two", 2, True), ("one", 1, False), ("nil", 0, True), ("four", 4, True), ("zero", 0, False), ("six", 6, False),
)
DARTS = (
    ("s20", 20, False), ("t20", 60, False), ("d20", 40, True), ("d1", 2, True), ("bull", 50, True), ("s1", 1, False),
)


def down(throws, turn=3, sides=2):
    return (sides, 501, turn, throws)


def some_throws(number):
    # Worths fall, so the order of throws is neither that of worths nor, with z ahead, of the alphabet.
    return tuple((f"z{number - place}", number - place, place % 3 != 1) for place in range(number))


def walked(throws, count, left):
    """All rows of names of one to left throws by which count comes to just 0 at the last one, which ends."""
    found = []
    for length in range(1, left + 1):
        for row in itertools.product(throws, repeat=length):
            sums = list(itertools.accumulate(worth for name, worth, ends in row))
            if sums[-1] == count and row[-1][2] and all(count > part for part in sums[:-1]):
                found.append(tuple(name for name, worth, ends in row))
    return found


class Finishes(unittest.TestCase):
    def told(self, found, wanted):
        self.assertTrue(same(found, wanted), (found, wanted))

    def refused(self, throws, count, left):
        before = copy.deepcopy(throws)
        with self.assertRaises(TooMany) as caught:
            finishes(down(throws), count, left)
        self.assertIs(type(caught.exception), TooMany)
        self.assertIsInstance(caught.exception, ScoreError)
        self.assertTrue(same(throws, before))

    def test_one_throw_left(self):
        self.told(finishes(down(DARTS), 40, 1), [("d20",)])
        self.told(finishes(down(DARTS), 2, 1), [("d1",)])
        self.told(finishes(down(DARTS), 20, 1), [])
        self.told(finishes(down(DARTS), 41, 1), [])

    def test_shorter_ones_ahead_then_in_the_order_of_throws(self):
        self.told(finishes(down(DARTS), 60, 2), [("s20", "d20")])
        self.told(finishes(down(DARTS), 4, 2), [("d1", "d1")])
        self.told(finishes(down(DARTS), 4, 3), [("d1", "d1"), ("s1", "s1", "d1")])
        wanted = [("d20", "d1"), ("d1", "d20"), ("s20", "s20", "d1"), ("s1", "s1", "d20")]
        self.told(finishes(down(DARTS), 42, 3), wanted)

    def test_the_order_is_that_of_throws_not_of_the_alphabet(self):
        throws = (("z", 1, True), ("m", 1, True), ("a", 1, True))
        self.told(finishes(down(throws), 1, 1), [("z",), ("m",), ("a",)])
        pairs = [(one, other) for one in "zma" for other in "zma"]
        self.told(finishes(down(throws), 2, 2), pairs)

    def test_a_throw_that_does_not_end_finishes_nothing(self):
        self.told(finishes(down((("one", 1, False), ("two", 2, False))), 2, 3), [])
        self.told(finishes(down((("one", 1, False), ("two", 2, True))), 2, 3), [("two",)])

    def test_no_row_goes_on_behind_nought(self):
        throws = (("one", 1, True), ("nil", 0, True), ("half", 1, False))
        self.told(finishes(down(throws), 1, 2), [("one",), ("nil", "one")])
        self.told(finishes(down(throws), 1, 3), [("one",), ("nil", "one"), ("nil", "nil", "one")])

    def test_throws_of_worth_nought(self):
        throws = (("miss", 0, False), ("two", 2, True), ("nil", 0, True))
        wanted = [
            ("two",), ("miss", "two"), ("nil", "two"),
            ("miss", "miss", "two"), ("miss", "nil", "two"), ("nil", "miss", "two"), ("nil", "nil", "two"),
        ]
        self.told(finishes(down(throws), 2, 3), wanted)

    def test_whatever_the_turn_and_the_sides_are(self):
        for turn in (1, 2, 3):
            for sides in (1, 2, 3):
                self.told(finishes(down(MIXED, turn, sides), 8, 3), walked(MIXED, 8, 3))

    def test_counts_at_their_bounds(self):
        throws = (("all", 1000000, True), ("most", 999999, False), ("one", 1, True))
        self.told(finishes(down(throws), 1000000, 1), [("all",)])
        self.told(finishes(down(throws), 1000000, 2), [("all",), ("most", "one")])
        self.told(finishes(down(throws), 1, 3), [("one",)])
        self.told(finishes(down(throws), 3, 3), [("one", "one", "one")])
        self.told(finishes(down(throws), 3, 2), [])

    def test_against_a_walk_through_all_rows(self):
        for throws in (MIXED, DARTS, MIXED[::-1], MIXED[:1], MIXED[2:4], some_throws(12)):
            for left in (1, 2, 3):
                for count in list(range(1, 30)) + [40, 42, 60, 100, 101, 170, 501]:
                    self.told(finishes(down(throws), count, left), walked(throws, count, left))

    def test_each_one_is_thrown_to_its_end(self):
        game = (1, 9, 3, MIXED)
        for count in range(1, 15):
            for names in finishes(game, count, 3):
                stand, won = ((count,), 0, 0, count), False
                for name in names:
                    self.assertIs(won, False)
                    stand, won = down_thrown(game, stand, name)
                self.assertIs(won, True)

    def test_too_many(self):
        for number, left in ((13, 3), (14, 3), (30, 3)):
            for count in (1, 5, 1000000):
                self.refused(some_throws(number), count, left)

    def test_not_too_many(self):
        for number, left in ((12, 3), (11, 3), (30, 2), (13, 2), (30, 1), (1, 3), (1, 1)):
            for count in (1, 2, 17, 30):
                throws = some_throws(number)
                self.told(finishes(down(throws), count, left), walked(throws, count, left))

    def test_what_is_told_is_the_askers_own(self):
        game = down(DARTS)
        told = finishes(game, 42, 3)
        kept = copy.deepcopy(told)
        told.clear()
        again = finishes(game, 42, 3)
        self.told(again, kept)
        again.append(("x",))
        self.told(finishes(game, 42, 3), kept)
        self.told(game, down(DARTS))


if __name__ == "__main__":
    unittest.main()
