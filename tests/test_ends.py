import random
import unittest

from samples import TENNIS_SET, same, unit
from tally.ends import soonest, soonest_row
from tally.games import deeds_at, first, place_of, played
from walks import MOST_LIMIT, NEVER_ENDING, STANDS, PlacesCase, after, by_ones, places_behind, plain_walk, played_on


def plain_soonest(game, stand):
    """From each place met the fewest deeds to an end, found by going over all places until nothing turns."""
    places = plain_walk(game, stand)
    numbers = {place: 0 for place in places if place[1] is not None}
    for number in range(1, len(places) + 1):
        nearer = [
            place for place in places
            if place not in numbers and any(behind in numbers for behind in places_behind(game, place))
        ]
        if not nearer:
            break
        numbers.update({place: number for place in nearer})
    return {place: numbers.get(place) for place in places}


class Soonest(PlacesCase):
    def test_just_the_places_met_with_a_plain_walks_numbers(self):
        for game, stand in STANDS:
            told = soonest(game, stand, MOST_LIMIT)
            self.assertIs(type(told), dict)
            self.assertEqual(told, plain_soonest(game, stand))
            for number in told.values():
                self.assertIn(type(number), (int, type(None)))

    def test_one_more_than_the_least_behind(self):
        for game, stand in STANDS:
            told = soonest(game, stand, MOST_LIMIT)
            for place, number in told.items():
                if place[1] is not None:
                    self.assertTrue(same(number, 0))
                    continue
                behind = [told[other] for other in places_behind(game, place)]
                numbers = [other for other in behind if other is not None]
                self.assertTrue(same(number, min(numbers) + 1 if numbers else None))

    def test_no_row_of_deeds_from_the_stand_itself_is_shorter(self):
        for game, stand in STANDS:
            number = soonest(game, stand, MOST_LIMIT)[place_of(game, stand)]
            stands = {stand}
            for length in range(12):
                over = any(one[1] is not None for one in stands)
                self.assertEqual(over, length == number)
                if over:
                    break
                stands = {played(game, one, deed) for one in stands for deed in deeds_at(game, one)}

    def test_told_examples(self):
        game = ("rally", TENNIS_SET)
        self.assertEqual(soonest(game, first(game))[first(game)], 24)
        stand = after(game, [0, 0, 0, 0] * 5 + [0, 0, 0])
        self.assertEqual(soonest(game, stand)[stand], 1)
        game = ("rally", unit(4, 2))
        stand = after(game, [0, 1] * 50 + [1])
        told = soonest(game, stand)
        self.assertNotIn(stand, told)
        self.assertEqual(told[((3, 4, ()), None)], 1)
        self.assertEqual(told[((3, 3, ()), None)], 2)
        game = ("down", (2, 40, 3, (("s20", 20, False), ("d10", 20, True))))
        self.assertEqual(soonest(game, first(game))[first(game)], 2)
        game = ("lane", (2, 3, 2))
        self.assertEqual(soonest(game, first(game), MOST_LIMIT)[first(game)], 6)

    def test_none_where_no_row_ends_it(self):
        for game in NEVER_ENDING:
            told = soonest(game, first(game))
            self.assertEqual(set(told), plain_walk(game, first(game)))
            self.assertEqual(set(told.values()), {None})
        game = ("down", (1, 3, 1, (("two", 2, True), ("one", 1, False))))
        told = soonest(game, first(game))
        self.assertEqual(told, {
            (((3,), 0, 0, 3), None): 2, (((2,), 0, 0, 2), None): 1, (((1,), 0, 0, 1), None): None,
            (((0,), 0, 1, 2), (0,)): 0,
        })

    def test_where_it_is_over(self):
        for game, stand in STANDS:
            if stand[1] is not None:
                self.assertEqual(soonest(game, stand, 1), {place_of(game, stand): 0})

    def test_nothing_goes_too_deep(self):
        for turn in (1, 2, 3):
            game = by_ones(1599, turn)
            told = soonest(game, first(game), MOST_LIMIT)
            self.assertEqual(told[first(game)], 1599)
            self.assertEqual(sorted(told.values()), list(range(1600)))

    def test_along_any_row_it_falls_by_one_at_most(self):
        source = random.Random(73)
        for game, stand in STANDS:
            told = soonest(game, stand, MOST_LIMIT)
            place = place_of(game, stand)
            for _ in range(60):
                if place[1] is not None:
                    break
                behind = place_of(game, played(game, place, source.choice(deeds_at(game, place))))
                if told[behind] is not None:
                    self.assertIsNotNone(told[place])
                    self.assertGreaterEqual(told[behind], told[place] - 1)
                place = behind

    def test_the_limit(self):
        self.keeps_to_its_limit(soonest)

    def test_what_is_handed_in_stays(self):
        self.leaves_what_is_handed_in(soonest)

    def test_what_is_told_is_the_askers_own(self):
        for game, stand in STANDS:
            told = soonest(game, stand)
            kept = dict(told)
            for place in kept:
                told[place] = 99
            self.assertEqual(soonest(game, stand), kept)
            soonest(game, stand).clear()
            self.assertEqual(soonest(game, stand), kept)


class SoonestRow(PlacesCase):
    def ends(self, game, stand, *limit):
        """Asked for a row, holds it to what is told of one."""
        row = soonest_row(game, stand, *limit)
        number = plain_soonest(game, stand)[place_of(game, stand)]
        if number is None:
            self.assertIsNone(row)
            return
        self.assertIs(type(row), list)
        self.assertEqual(len(row), number)
        for deed in row:
            self.assertIsNone(stand[1])
            self.assertTrue(any(same(deed, let) for let in deeds_at(game, stand)))
            stand = played(game, stand, deed)
        self.assertIsNotNone(stand[1])

    def test_a_row_of_the_fewest_deeds_that_ends_it(self):
        for game, stand in STANDS:
            self.ends(game, stand, MOST_LIMIT)

    def test_from_stands_far_on(self):
        game = ("rally", unit(2, 2, None, unit(3, 2)))
        swings = ([0] * 3 + [1] * 3) * 15
        for row in ([0, 1] * 40, [0, 1] * 40 + [1], swings + [0, 0], swings + [1] * 5):
            stand = after(game, row)
            self.assertNotEqual(stand, place_of(game, stand))
            self.ends(game, stand)

    def test_nothing_to_do_where_it_is_over(self):
        for game, stand in STANDS:
            if stand[1] is not None:
                self.assertTrue(same(soonest_row(game, stand), []))
                self.assertTrue(same(soonest_row(game, stand, 1), []))

    def test_none_where_there_is_none(self):
        for game in NEVER_ENDING:
            self.assertIsNone(soonest_row(game, first(game)))
            self.assertIsNone(soonest_row(game, first(game), MOST_LIMIT))
        game = ("down", (1, 3, 1, (("two", 2, True), ("one", 1, False))))
        self.assertIsNone(soonest_row(game, after(game, ["two"])))
        self.assertTrue(same(soonest_row(game, after(game, ["one"])), ["two"]))

    def test_nothing_goes_too_deep(self):
        for turn in (1, 2, 3):
            game = by_ones(1599, turn)
            row = soonest_row(game, first(game), MOST_LIMIT)
            self.assertTrue(same(row, ["one"] * 1599))
            self.assertEqual(played_on(game, first(game), row)[1], (0,))

    def test_the_limit(self):
        self.keeps_to_its_limit(soonest_row)

    def test_what_is_handed_in_stays(self):
        self.leaves_what_is_handed_in(soonest_row)

    def test_what_is_told_is_the_askers_own(self):
        for game, stand in STANDS:
            told = soonest_row(game, stand)
            if told is not None:
                told.append("more")
                told.reverse()
                self.ends(game, stand)
                soonest_row(game, stand).clear()
                self.ends(game, stand)


if __name__ == "__main__":
    unittest.main()
