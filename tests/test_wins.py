import unittest

from samples import GREAT, TENNIS_SET, same, unit
from tally.errors import NoSide, TooMany
from tally.games import deeds_at, first, place_of, played, sides_of
from tally.wins import can_win
from walks import FAR, MOST_LIMIT, NEVER_ENDING, STANDS, PlacesCase, after, by_ones, places_behind, plain_walk


def has_won(place, side):
    return place[1] is not None and side in place[1]


def ask_for(side):
    return lambda game, stand, *limit: can_win(game, stand, side, *limit)


class CanWin(PlacesCase):
    def holds(self, game, stand, side, told):
        """Holds an answer to what is told of one."""
        self.assertIs(type(told), tuple)
        self.assertEqual(len(told), 2)
        self.assertIs(type(told[1]), list)
        if any(has_won(place, side) for place in plain_walk(game, stand)):
            self.assertEqual(told[0], "row")
            self.wins(game, stand, side, told[1])
        else:
            self.assertEqual(told[0], "never")
            self.never_wins(game, stand, side, told[1])

    def wins(self, game, stand, side, row):
        for deed in row:
            self.assertIsNone(stand[1])
            self.assertTrue(any(same(deed, let) for let in deeds_at(game, stand)))
            stand = played(game, stand, deed)
        self.assertIsNotNone(stand[1])
        self.assertIn(side, stand[1])

    def never_wins(self, game, stand, side, places):
        self.assertTrue(any(same(place, place_of(game, stand)) for place in places))
        self.assertEqual(len(places), len(set(places)))
        for place in places:
            self.assertFalse(has_won(place, side))
            for behind in places_behind(game, place):
                self.assertIn(behind, places)

    def test_each_side_of_each_game(self):
        answers = set()
        for game, stand in STANDS:
            for side in range(sides_of(game)):
                told = can_win(game, stand, side, MOST_LIMIT)
                self.holds(game, stand, side, told)
                answers.add((game[0], sides_of(game), told[0]))
        for kind, sides in (("rally", 2), ("down", 1), ("down", 2), ("down", 3), ("lane", 2)):
            for word in ("row", "never"):
                self.assertIn((kind, sides, word), answers)

    def test_from_stands_far_on(self):
        game = ("rally", unit(2, 2, None, unit(3, 2)))
        for row in ([0, 1] * 40, [0, 1] * 40 + [1], ([0] * 3 + [1] * 3) * 15 + [0, 0]):
            stand = after(game, row)
            self.assertNotEqual(stand, place_of(game, stand))
            for side in (0, 1):
                self.holds(game, stand, side, can_win(game, stand, side))
                self.assertEqual(can_win(game, stand, side)[0], "row")

    def test_where_it_has_won(self):
        for game, stand in STANDS:
            for side in stand[1] or ():
                self.assertTrue(same(can_win(game, stand, side), ("row", [])))
                self.assertTrue(same(can_win(game, stand, side, 1), ("row", [])))

    def test_where_it_has_lost(self):
        lost = set()
        for game, stand in STANDS:
            for side in range(sides_of(game)):
                if stand[1] is not None and side not in stand[1]:
                    self.assertTrue(same(can_win(game, stand, side, 1), ("never", [place_of(game, stand)])))
                    lost.add(game[0])
        self.assertEqual(lost, {"rally", "down", "lane"})

    def test_several_winners(self):
        game = ("lane", (3, 2, 1))
        stand = after(game, [1, 0, 1, 0])
        self.assertEqual(can_win(game, stand, 0)[0], "row")
        stand = after(game, [1, 0, 1, 0, 0, 1])
        self.assertEqual(stand[1], (0, 1, 2))
        for side in range(3):
            self.assertTrue(same(can_win(game, stand, side), ("row", [])))
        stand = after(game, [1, 0, 0, 1, 0, 0])
        self.assertEqual(stand[1], (0, 1))
        self.assertTrue(same(can_win(game, stand, 1), ("row", [])))
        self.assertTrue(same(can_win(game, stand, 2), ("never", [stand])))

    def test_a_lane_that_is_lost_or_drawn_at_best(self):
        game = ("lane", (2, 2, 1))
        stand = after(game, [1, 0, 0])
        self.assertEqual(can_win(game, stand, 0)[0], "row")
        told = can_win(game, stand, 1)
        self.holds(game, stand, 1, told)
        self.assertEqual(told[0], "row")
        # Side 0 has 3; without a strike side 1 comes to 2 at most.
        game = ("lane", (2, 1, 1))
        stand = after(game, [1, 1, 1, 0])
        self.assertEqual(stand, ((((1, 0, 1, 0, 0, 0, 3), (0, 1, 1, 0, 0, 0, 0)), 1), None))
        told = can_win(game, stand, 1)
        self.assertEqual(told[0], "never")
        self.holds(game, stand, 1, told)

    def test_a_side_that_never_comes_to_it(self):
        game = ("down", (2, 4, 2, (("all", 4, True),)))
        self.assertTrue(same(can_win(game, first(game), 0), ("row", ["all"])))
        told = can_win(game, first(game), 1)
        self.assertEqual(told[0], "never")
        self.holds(game, first(game), 1, told)
        game = by_ones(5, 2, 3)
        self.assertTrue(same(can_win(game, first(game), 0), ("row", ["one"] * 13)))
        for side in (1, 2):
            self.assertEqual(can_win(game, first(game), side)[0], "never")

    def test_where_nobody_can(self):
        for game in NEVER_ENDING:
            for side in range(sides_of(game)):
                told = can_win(game, first(game), side)
                self.assertEqual(told[0], "never")
                self.holds(game, first(game), side, told)

    def test_nothing_goes_too_deep(self):
        game = by_ones(1599, 3)
        self.assertTrue(same(can_win(game, first(game), 0, MOST_LIMIT), ("row", ["one"] * 1599)))
        game = by_ones(800, 1, 2)
        self.assertTrue(same(can_win(game, first(game), 0, MOST_LIMIT), ("row", ["one"] * 1599)))
        told = can_win(game, first(game), 1, MOST_LIMIT)
        self.assertEqual(told[0], "never")
        self.holds(game, first(game), 1, told)

    def test_the_limit(self):
        self.keeps_to_its_limit(ask_for(0))
        match = ("rally", unit(3, 1, None, TENNIS_SET))
        for side in (0, 1):
            self.refused(TooMany, can_win, match, first(match), side)
            self.refused(TooMany, can_win, match, first(match), side, MOST_LIMIT)

    def test_no_side(self):
        for game, stand in STANDS:
            sides = sides_of(game)
            for side in (-1, -2, -sides, sides, sides + 1, 3, 20, 9999, GREAT, -GREAT):
                self.refused(NoSide, can_win, game, stand, side)
                self.refused(NoSide, can_win, game, stand, side, 1)
                self.refused(NoSide, can_win, game, stand, side, MOST_LIMIT)

    def test_no_side_ahead_of_too_many(self):
        match = ("rally", unit(3, 1, None, TENNIS_SET))
        for game in (FAR, match, by_ones(1000), by_ones(5000, 1, 3)):
            for side in (-1, sides_of(game), GREAT):
                self.refused(NoSide, can_win, game, first(game), side)
                self.refused(NoSide, can_win, game, first(game), side, 1)

    def test_what_is_handed_in_stays(self):
        self.leaves_what_is_handed_in(ask_for(0))

    def test_what_is_told_is_the_askers_own(self):
        for game, stand in STANDS:
            for side in range(sides_of(game)):
                told = can_win(game, stand, side)
                told[1].append("more")
                told[1].reverse()
                self.holds(game, stand, side, can_win(game, stand, side))
                can_win(game, stand, side)[1].clear()
                self.holds(game, stand, side, can_win(game, stand, side))


if __name__ == "__main__":
    unittest.main()
