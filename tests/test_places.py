import unittest

from samples import TENNIS_SET, same, unit
from tally.games import first, place_of, played
from tally.places import met
from walks import MOST_LIMIT, STANDS, PlacesCase, after, by_ones, places_behind, plain_walk


class Met(PlacesCase):
    def test_just_those_of_a_plain_walk_each_once(self):
        for game, stand in STANDS:
            places = met(game, stand, MOST_LIMIT)
            self.assertIs(type(places), list)
            self.assertEqual(len(places), len(set(places)))
            self.assertEqual(set(places), plain_walk(game, stand))

    def test_the_first_one_first_each_other_one_behind_a_deed_farther_ahead(self):
        for game, stand in STANDS:
            places = met(game, stand, MOST_LIMIT)
            self.assertTrue(same(places[0], place_of(game, stand)))
            reached = {places[0]}
            for place in places:
                self.assertIn(place, reached)
                reached.update(places_behind(game, place))

    def test_each_is_a_place(self):
        for game, stand in STANDS:
            for place in met(game, stand, MOST_LIMIT):
                self.assertTrue(same(place_of(game, place), place))

    def test_a_stand_and_its_place(self):
        for game, stand in STANDS:
            places = met(game, place_of(game, stand), MOST_LIMIT)
            self.assertEqual(set(met(game, stand, MOST_LIMIT)), set(places))
            self.assertTrue(same(places[0], place_of(game, stand)))

    def test_told_examples(self):
        game = ("rally", unit(1, 2))
        wanted = {((0, 0, ()), None), ((1, 0, ()), None), ((0, 1, ()), None), ((2, 0, ()), (0,)), ((0, 2, ()), (1,))}
        self.assertEqual(set(met(game, first(game))), wanted)
        self.assertEqual(set(met(game, after(game, [0, 1] * 30))), wanted)
        places = met(game, after(game, [0, 1] * 30 + [1]))
        self.assertEqual(places[0], ((0, 1, ()), None))
        self.assertEqual(set(places), wanted)
        game = ("down", (1, 3, 2, (("two", 2, True), ("one", 1, False))))
        wanted = [(3, 0, 3), (1, 1, 3), (2, 1, 3), (1, 0, 1), (0, 2, 3)]
        self.assertEqual(set(met(game, first(game))), {
            (((count,), 0, thrown, held), (0,) if count == 0 else None) for count, thrown, held in wanted
        })
        game = ("lane", (1, 1, 1))
        self.assertEqual(len(met(game, first(game))), 9)

    def test_nothing_is_met_that_lies_behind_alone(self):
        game = by_ones(10)
        self.assertEqual(len(met(game, first(game))), 11)
        self.assertEqual(len(met(game, after(game, ["one"] * 4))), 7)
        game = ("rally", unit(3))
        self.assertEqual(len(met(game, first(game))), 15)
        self.assertNotIn(first(game), met(game, after(game, [0])))

    def test_where_it_is_over(self):
        over = [(game, stand) for game, stand in STANDS if stand[1] is not None]
        self.assertEqual({game[0] for game, stand in over}, {"rally", "down", "lane"})
        for game, stand in over:
            for limit in (1, 2, MOST_LIMIT):
                self.assertTrue(same(met(game, stand, limit), [place_of(game, stand)]))
            self.assertTrue(same(met(game, stand), [place_of(game, stand)]))

    def test_a_match_of_sets_of_games(self):
        game = ("rally", unit(2, 1, None, TENNIS_SET))
        places = met(game, first(game), MOST_LIMIT)
        self.assertEqual(set(places), plain_walk(game, first(game)))

    def test_where_it_never_ends(self):
        game = ("down", (1, 5, 1, (("nil", 0, True),)))
        self.assertTrue(same(met(game, first(game), 1), [first(game)]))
        self.assertEqual(played(game, first(game), "nil"), first(game))

    def test_the_limit(self):
        self.keeps_to_its_limit(met)

    def test_what_is_handed_in_stays(self):
        self.leaves_what_is_handed_in(met)

    def test_what_is_told_is_the_askers_own(self):
        for game, stand in STANDS:
            told = met(game, stand)
            kept = set(told)
            told.clear()
            told = met(game, stand)
            self.assertEqual(set(told), kept)
            told.append("more")
            told[0] = "other"
            self.assertEqual(set(met(game, stand)), kept)


if __name__ == "__main__":
    unittest.main()
