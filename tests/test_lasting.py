import unittest

from samples import same, unit
from tally.errors import TooMany
from tally.games import deeds_at, first, place_of, played
from tally.lasting import lasting
from walks import (
    MOST_LIMIT, NEVER_ENDING, SMALL_GAMES, STANDS, THROWS, PlacesCase, after, by_ones, places_behind, plain_walk,
)


def plain_most(game, stand):
    """How many deeds may come from a stand, None where there is no greatest number.

    A row that is longer than there are places comes to one of them again.
    """
    number = -1
    places = {place_of(game, stand)}
    most = len(plain_walk(game, stand))
    while places:
        number += 1
        if number > most:
            return None
        places = {behind for place in places for behind in places_behind(game, place)}
    return number


class Lasting(PlacesCase):
    def holds(self, game, stand, told):
        """Holds an answer to what is told of one."""
        self.assertIs(type(told), tuple)
        number = plain_most(game, stand)
        if number is None:
            self.assertEqual(told[0], "for ever")
            self.goes_round(game, stand, told)
        else:
            self.assertEqual(told[0], "ends")
            self.ends(game, stand, told)
            self.assertEqual(told[1][place_of(game, stand)], number)

    def ends(self, game, stand, told):
        self.assertEqual(len(told), 2)
        ranks = told[1]
        self.assertIs(type(ranks), dict)
        self.assertEqual(set(ranks), plain_walk(game, stand))
        for place, rank in ranks.items():
            behind = [ranks[other] for other in places_behind(game, place)]
            self.assertTrue(same(rank, max(behind) + 1 if behind else 0), (place, rank))

    def goes_round(self, game, stand, told):
        self.assertEqual(len(told), 3)
        way, round_again = told[1:]
        self.assertIs(type(way), list)
        self.assertIs(type(round_again), list)
        self.assertNotEqual(round_again, [])
        at_round = self.led(game, place_of(game, stand), way)
        place = at_round
        for _ in range(3):
            place = self.led(game, place, round_again)
            self.assertTrue(same(place, at_round))
        # The same row is let from the stand itself, without an end.
        for deed in way + round_again * 3:
            stand = played(game, stand, deed)
            self.assertIsNone(stand[1])

    def led(self, game, place, deeds):
        for deed in deeds:
            self.assertTrue(any(same(deed, let) for let in deeds_at(game, place)))
            place = place_of(game, played(game, place, deed))
        return place

    def test_each_game(self):
        answers = set()
        for game, stand in STANDS:
            told = lasting(game, stand, MOST_LIMIT)
            self.holds(game, stand, told)
            answers.add((game[0], told[0]))
        self.assertEqual(answers, {(kind, "ends") for kind in ("rally", "down", "lane")} | {
            ("rally", "for ever"), ("down", "for ever"),
        })

    def test_rallies(self):
        for rule, most in (
            (unit(), 1), (unit(3), 5), (unit(1, 1, 1), 1), (unit(3, 9, 5), 9), (unit(2, 2, 3), 5),
            (unit(2, 1, None, unit(2)), 9), (unit(2, 2, 2, unit(2), unit(3)), 11),
        ):
            game = ("rally", rule)
            told = lasting(game, first(game))
            self.assertEqual(told[0], "ends", rule)
            self.assertEqual(told[1][first(game)], most, rule)
        for rule in (unit(1, 2), unit(4, 2), unit(3, 3), unit(2, 1, None, unit(2, 2)), unit(2, 2, None, unit(2)),
                     unit(2, 2, 2, unit(2), unit(2, 2)), unit(1, 1, 1, unit(2), unit(2, 2))):
            game = ("rally", rule)
            self.assertEqual(lasting(game, first(game))[0], "for ever", rule)
            self.holds(game, first(game), lasting(game, first(game)))

    def test_a_round_that_may_no_longer_come(self):
        game = ("rally", unit(2, 1, 2, unit(2, 2), unit(3)))
        self.assertEqual(lasting(game, first(game))[0], "for ever")
        self.assertEqual(lasting(game, after(game, [0, 0]))[0], "for ever")
        stand = after(game, [0, 0, 1, 1])
        told = lasting(game, stand)
        self.holds(game, stand, told)
        self.assertEqual(told[1][stand], 5)

    def test_a_round_that_is_still_to_come(self):
        game = ("rally", unit(2, 1, 2, unit(2), unit(2, 2)))
        told = lasting(game, first(game))
        self.holds(game, first(game), told)
        self.assertGreaterEqual(len(told[1]), 4)

    def test_from_stands_far_on(self):
        game = ("rally", unit(2, 2, None, unit(4, 2)))
        for row in ([0, 1] * 30, [0, 1] * 30 + [1], ([0] * 4 + [1] * 4) * 9 + [0, 0, 0]):
            stand = after(game, row)
            self.assertNotEqual(stand, place_of(game, stand))
            self.holds(game, stand, lasting(game, stand))

    def test_downs(self):
        for game in (by_ones(9), by_ones(9, 3), by_ones(4, 2, 3)):
            self.assertEqual(lasting(game, first(game))[0], "ends")
            self.holds(game, first(game), lasting(game, first(game)))
        self.assertEqual(lasting(by_ones(9, 3), first(by_ones(9, 3)))[1][first(by_ones(9, 3))], 9)
        busts = ("down", (1, 9, 3, (("two", 2, True),)))
        self.assertEqual(lasting(busts, first(busts))[0], "for ever")
        self.holds(busts, first(busts), lasting(busts, first(busts)))
        for sides in (1, 2, 3):
            for turn in (1, 2, 3):
                game = ("down", (sides, 3, turn, THROWS[:1] + (("nil", 0, False),)))
                self.assertEqual(lasting(game, first(game))[0], "for ever")
                self.holds(game, first(game), lasting(game, first(game)))
        for game in NEVER_ENDING:
            self.assertEqual(lasting(game, first(game))[0], "for ever")
            self.holds(game, first(game), lasting(game, first(game)))

    def test_lanes(self):
        for lane, most in (((1, 1, 1), 3), ((1, 5, 1), 3), ((1, 2, 2), 5), ((2, 1, 2), 10), ((3, 1, 1), 9)):
            game = ("lane", lane)
            told = lasting(game, first(game), MOST_LIMIT)
            self.assertEqual(told[0], "ends")
            self.assertEqual(told[1][first(game)], most)

    def test_where_it_is_over(self):
        for game, stand in STANDS:
            if stand[1] is not None:
                self.assertEqual(lasting(game, stand, 1), ("ends", {place_of(game, stand): 0}))
                self.assertTrue(same(list(lasting(game, stand)[1].items()), [(place_of(game, stand), 0)]))

    def test_nothing_goes_too_deep(self):
        for turn in (1, 2, 3):
            game = by_ones(1599, turn)
            told = lasting(game, first(game), MOST_LIMIT)
            self.assertEqual(told[0], "ends")
            self.assertEqual(told[1][first(game)], 1599)
            self.assertEqual(sorted(told[1].values()), list(range(1600)))
        # Only behind the last one does a throw lead back.
        game = ("down", (1, 2900, 1, (("one", 1, False),)))
        told = lasting(game, first(game), MOST_LIMIT)
        self.assertTrue(same(told, ("for ever", ["one"] * 2899, ["one"])))

    def test_the_limit(self):
        self.keeps_to_its_limit(lasting)

    def test_too_many_where_a_round_would_be_found_sooner(self):
        game = ("down", (1, 5000, 1, (("nil", 0, True), ("one", 1, True))))
        for limit in ([], [1], [MOST_LIMIT]):
            self.refused(TooMany, lasting, game, first(game), *limit)

    def test_what_is_handed_in_stays(self):
        self.leaves_what_is_handed_in(lasting)

    def test_what_is_told_is_the_askers_own(self):
        for game in SMALL_GAMES:
            stand = first(game)
            for part in lasting(game, stand)[1:]:
                part.clear()
            self.holds(game, stand, lasting(game, stand))
            for part in lasting(game, stand)[1:]:
                if isinstance(part, dict):
                    part.update({place: 99 for place in part})
                else:
                    part.append("more")
            self.holds(game, stand, lasting(game, stand))


if __name__ == "__main__":
    unittest.main()
