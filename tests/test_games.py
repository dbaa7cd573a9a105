import copy
import random
import unittest

from samples import NO_NUMBERS, POINT, RULES, TENNIS_SET, THINGS, rows_for, same, unit
from tally.downs import down_begun, down_thrown
from tally.errors import NoPins, NoSide, NoThrow, Over
from tally.games import deeds_at, first, is_game, place_of, played, shown, sides_of
from tally.lanes import lane_begun, lane_bowled
from tally.rallies import begun, cut, rallied
from walks import THROWS, after, walk

DOWNS = [(sides, begin, turn, THROWS) for sides in (1, 2, 3) for begin in (1, 7) for turn in (1, 2, 3)]
LANES = [(sides, pins, frames) for sides in (1, 2, 3) for pins in (1, 4, 20) for frames in (1, 2, 12)]
MATCH = ("rally", unit(2, 1, None, TENNIS_SET))
DOWN = ("down", (2, 7, 3, THROWS))
LANE = ("lane", (2, 10, 2))
GAMES = (
    [("rally", rule) for rule in RULES] + [("down", down) for down in DOWNS] + [("lane", lane) for lane in LANES]
)
NO_TEXTS = [thing for thing in THINGS if not isinstance(thing, str)]


def won_game(game):
    source = random.Random(37)
    while True:
        stand = walk(game, source, 2000)[-1]
        if stand[1] is not None:
            return stand


OVER_GAMES = [
    ("rally", POINT), ("rally", unit()), ("rally", unit(3, 2)), ("rally", unit(2, 1, 2, unit(2), POINT)),
    DOWN, ("down", (1, 2, 1, THROWS)), ("down", (3, 3, 2, THROWS)), LANE, ("lane", (1, 1, 1)), ("lane", (3, 3, 2)),
]


class GameCase(unittest.TestCase):
    def told(self, found, wanted):
        self.assertTrue(same(found, wanted), (found, wanted))


class IsGame(unittest.TestCase):
    def holds(self, thing):
        self.assertIs(is_game(thing), True, thing)

    def fails(self, thing):
        self.assertIs(is_game(thing), False, thing)

    def test_the_three_kinds(self):
        for game in GAMES:
            self.holds(game)

    def test_another_word(self):
        for game in (MATCH, DOWN, LANE):
            for word in ["", "Rally", "rallies", "downs", "lanes", "Down", "LANE", "rally ", "point", "unit"]:
                self.fails((word, game[1]))
            for thing in NO_TEXTS + [("rally",), ["rally"], ("down",), ["lane"]]:
                self.fails((thing, game[1]))

    def test_another_kinds_rule(self):
        games = (MATCH, DOWN, LANE)
        for one in games:
            for other in games:
                if one is not other:
                    self.fails((one[0], other[1]))

    def test_a_spoilt_rule(self):
        for kind in ("rally", "down", "lane"):
            for thing in THINGS:
                rights = {"rally": (POINT, unit()), "lane": ((1, 1, 1),), "down": ()}[kind]
                if not any(same(thing, right) for right in rights):
                    self.fails((kind, thing))
        for rule in (unit(to=0), unit(lead=100), unit(last=POINT), unit(inner=None), ["point"], list(unit())):
            self.fails(("rally", rule))
        for down in ((0, 7, 3, THROWS), (2, 0, 3, THROWS), (2, 7, 4, THROWS), (2, 7, 3, ()), [2, 7, 3, THROWS]):
            self.fails(("down", down))
        self.fails(("down", (2, 7, 3, THROWS + THROWS)))
        self.fails(("down", (2, 7, 3, list(THROWS))))
        for lane in ((0, 10, 10), (4, 10, 10), (2, 21, 10), (2, 10, 13), (2, 10, True), [2, 10, 10], (2, 10)):
            self.fails(("lane", lane))

    def test_a_thing_more_or_fewer(self):
        for game in (MATCH, DOWN, LANE):
            self.fails(game[:1])
            self.fails(game[1:])
            self.fails(game[1])
            self.fails(game + (None,))
            self.fails(game + game)
            self.fails((game,))
            self.fails(game[::-1])
        self.fails(())

    def test_a_list(self):
        for game in (MATCH, DOWN, LANE):
            self.fails(list(game))
            self.fails((game[0], list(game[1])))

    def test_other_things(self):
        for thing in THINGS:
            self.fails(thing)
            self.fails([thing])
            self.fails((thing, thing))

    def test_what_is_handed_in_stays(self):
        things = THINGS + [list(MATCH), ("down", list(DOWN[1])), ("lane", [2, 10, 10])]
        before = copy.deepcopy(things)
        for thing in things:
            is_game(thing)
        self.assertTrue(same(things, before))


class SidesAndFirst(GameCase):
    def test_sides(self):
        for rule in RULES:
            self.told(sides_of(("rally", rule)), 2)
        for sides in (1, 2, 3):
            self.told(sides_of(("down", (sides, 7, 3, THROWS))), sides)
            self.told(sides_of(("lane", (sides, 10, 2))), sides)

    def test_first(self):
        self.told(first(("rally", POINT)), ((), None))
        self.told(first(MATCH), ((0, 0, (0, 0, (0, 0, ()))), None))
        self.told(first(DOWN), (((7, 7), 0, 0, 7), None))
        self.told(first(LANE), ((((0, 0, 10, 0, 0, 0, 0),) * 2, 0), None))
        for kind, rule in GAMES:
            begin = {"rally": begun, "down": down_begun, "lane": lane_begun}[kind]
            self.told(first((kind, rule)), (begin(rule), None))


class DeedsAt(GameCase):
    def test_a_rally(self):
        for rule in RULES:
            self.told(deeds_at(("rally", rule), first(("rally", rule))), [0, 1])
        self.told(deeds_at(MATCH, after(MATCH, [0, 1, 1])), [0, 1])

    def test_a_down(self):
        self.told(deeds_at(DOWN, first(DOWN)), ["two", "one", "nil", "three"])
        self.told(deeds_at(DOWN, after(DOWN, ["three", "three"])), ["two", "one", "nil", "three"])
        self.told(deeds_at(("down", (1, 5, 1, THROWS[::-1])), first(DOWN)), ["three", "nil", "one", "two"])

    def test_a_lane(self):
        self.told(deeds_at(LANE, first(LANE)), list(range(11)))
        self.told(deeds_at(LANE, after(LANE, [7])), [0, 1, 2, 3])
        self.told(deeds_at(LANE, after(LANE, [7, 3])), list(range(11)))
        self.told(deeds_at(LANE, after(LANE, [10, 9])), [0, 1])
        game = ("lane", (1, 10, 1))
        self.told(deeds_at(game, after(game, [10])), list(range(11)))
        self.told(deeds_at(game, after(game, [10, 4])), list(range(7)))
        self.told(deeds_at(("lane", (1, 1, 1)), first(("lane", (1, 1, 1)))), [0, 1])

    def test_nothing_where_it_is_over(self):
        for game in OVER_GAMES:
            self.told(deeds_at(game, won_game(game)), [])

    def test_just_these_are_let(self):
        tried = list(range(-2, 24)) + [throw[0] for throw in THROWS] + NO_NUMBERS
        source = random.Random(41)
        for game in OVER_GAMES:
            for stand in walk(game, source, 30):
                let = deeds_at(game, stand)
                for deed in tried:
                    try:
                        played(game, stand, deed)
                        self.assertTrue(any(same(deed, one) for one in let), (game, stand, deed))
                    except (Over, NoSide, NoThrow, NoPins):
                        self.assertFalse(any(same(deed, one) for one in let), (game, stand, deed))

    def test_what_is_told_is_the_askers_own(self):
        for game in (MATCH, DOWN, LANE):
            before = copy.deepcopy(game)
            for stand in (first(game), won_game(game)):
                told = deeds_at(game, stand)
                kept = list(told)
                told.append("more")
                told.reverse()
                self.told(deeds_at(game, stand), kept)
                deeds_at(game, stand).clear()
                self.told(deeds_at(game, stand), kept)
                self.told(game, before)


class Played(GameCase):
    def test_a_rally(self):
        self.told(played(("rally", POINT), ((), None), 0), ((), (0,)))
        self.told(played(("rally", POINT), ((), None), 1), ((), (1,)))
        self.told(after(("rally", unit(2)), [0]), ((1, 0, ()), None))
        self.told(after(("rally", unit(2)), [0, 1]), ((1, 1, ()), None))
        self.told(after(("rally", unit(2)), [0, 1, 0]), ((2, 1, ()), (0,)))
        self.told(after(("rally", unit(2)), [0, 1, 1]), ((1, 2, ()), (1,)))
        self.told(after(MATCH, [0, 0, 1]), ((0, 0, (0, 0, (2, 1, ()))), None))

    def test_a_down(self):
        self.told(after(DOWN, ["two", "three"]), (((2, 7), 0, 2, 7), None))
        self.told(after(DOWN, ["two", "three", "two"]), (((0, 7), 0, 3, 7), (0,)))
        self.told(after(DOWN, ["two", "three", "one", "three", "two", "two"]), (((1, 0), 1, 3, 7), (1,)))
        game = ("down", (3, 2, 1, THROWS))
        self.told(after(game, ["one", "nil", "two"]), (((1, 2, 0), 2, 1, 2), (2,)))

    def test_a_lane(self):
        self.told(after(LANE, [10]), ((((1, 0, 10, 1, 1, 0, 10), (0, 0, 10, 0, 0, 0, 0)), 1), None))
        game = ("lane", (1, 3, 1))
        self.told(after(game, [1, 1]), ((((1, 0, 3, 0, 0, 0, 2),), 0), (0,)))

    def test_several_winners_rising(self):
        game = ("lane", (3, 3, 1))
        self.assertEqual(after(game, [1, 1, 1, 0, 0, 2])[1], (0, 2))
        self.assertEqual(after(game, [1, 0, 1, 1, 0, 2])[1], (1, 2))
        self.assertEqual(after(game, [1, 1, 0, 2, 0, 0])[1], (0, 1))
        self.assertEqual(after(game, [0, 0, 0, 0, 0, 0])[1], (0, 1, 2))
        self.assertEqual(after(game, [0, 0, 0, 1, 0, 2])[1], (2,))
        self.assertIs(type(after(game, [1, 1, 1, 0, 0, 2])[1]), tuple)
        self.assertIsNone(after(game, [0, 0, 0, 1, 0])[1])

    def test_rallies_as_the_rule_tells(self):
        source = random.Random(43)
        for rule in RULES:
            for row in rows_for(source, 40):
                game = ("rally", rule)
                stand, inner = first(game), begun(rule)
                for side in row:
                    stand = played(game, stand, side)
                    inner, won = rallied(rule, inner, side)
                    self.told(stand, (inner, (side,) if won else None))
                    if won:
                        break

    def test_downs_as_the_down_tells(self):
        source = random.Random(47)
        for down in DOWNS:
            game = ("down", down)
            stand, inner = first(game), down_begun(down)
            for _ in range(40):
                name = source.choice(THROWS)[0]
                stand = played(game, stand, name)
                inner, won = down_thrown(down, inner, name)
                self.told(stand, (inner, (inner[1],) if won else None))
                if won:
                    break

    def test_lanes_as_the_lane_tells(self):
        source = random.Random(53)
        for lane in LANES:
            game = ("lane", lane)
            stand, inner, over = first(game), lane_begun(lane), False
            while not over:
                pins = source.choice(deeds_at(game, stand))
                stand = played(game, stand, pins)
                inner, over = lane_bowled(lane, inner, pins)
                totals = [row[6] for row in inner[0]]
                winners = tuple(side for side in range(lane[0]) if totals[side] == max(totals))
                self.told(stand, (inner, winners if over else None))

    def test_what_is_handed_in_stays(self):
        for game in (MATCH, DOWN, LANE):
            stand = first(game)
            before = copy.deepcopy((game, stand))
            for deed in deeds_at(game, stand):
                told = played(game, stand, deed)
                kept = copy.deepcopy(told)
                place_of(game, told)
                shown(game, told)
                self.assertTrue(same(told, kept))
                self.told(played(game, stand, deed), kept)
            self.assertTrue(same((game, stand), before))


class Refused(GameCase):
    def refused(self, refusal, game, stand, deed):
        before = copy.deepcopy((game, stand, deed))
        with self.assertRaises(refusal, msg=repr(deed)) as caught:
            played(game, stand, deed)
        self.assertIs(type(caught.exception), refusal)
        self.assertTrue(same((game, stand, deed), before))

    def test_over_whatever_the_deed_is(self):
        for game in OVER_GAMES:
            stand = won_game(game)
            for deed in [0, 1, "two", "one", 10] + THINGS:
                self.refused(Over, game, stand, deed)
                self.refused(Over, game, place_of(game, stand), deed)

    def test_no_side(self):
        sides = (0, 1)
        for game in (MATCH, ("rally", POINT), ("rally", unit(3, 2))):
            for deed in THINGS + [-2, 3, 10, [0, 1], "two"]:
                if not any(same(deed, side) for side in sides):
                    self.refused(NoSide, game, first(game), deed)

    def test_no_throw(self):
        names = [throw[0] for throw in THROWS]
        for stand in (first(DOWN), after(DOWN, ["two"])):
            for deed in THINGS + ["tw", "twoo", "Two", "two ", 2, 3, ("two",), ["two"]]:
                if deed not in names:
                    self.refused(NoThrow, DOWN, stand, deed)

    def test_no_pins(self):
        small = ("lane", (1, 1, 1))
        for game, stand in ((LANE, first(LANE)), (LANE, after(LANE, [7])), (small, first(small))):
            let = deeds_at(game, stand)
            for deed in THINGS + [-1, len(let), len(let) + 1, 21, "two"]:
                if not any(same(deed, one) for one in let):
                    self.refused(NoPins, game, stand, deed)

    def test_the_stand_is_played_on_as_before(self):
        stand = after(MATCH, [0, 0])
        self.refused(NoSide, MATCH, stand, 2)
        self.told(played(MATCH, stand, 1), after(MATCH, [0, 0, 1]))
        stand = after(DOWN, ["two"])
        self.refused(NoThrow, DOWN, stand, "four")
        self.told(played(DOWN, stand, "two"), after(DOWN, ["two", "two"]))
        stand = after(LANE, [4])
        self.refused(NoPins, LANE, stand, 7)
        self.told(played(LANE, stand, 6), after(LANE, [4, 6]))


class PlaceOf(GameCase):
    def test_a_rally_is_cut(self):
        game = ("rally", unit(2, 2, None, unit(2, 2)))
        self.told(place_of(game, ((4, 5, (7, 7, ())), None)), ((1, 2, (1, 1, ())), None))
        self.told(place_of(game, ((4, 6, ()), (1,))), ((1, 3, ()), (1,)))
        self.told(place_of(game, ((0, 1, (1, 1, ())), None)), ((0, 1, (1, 1, ())), None))
        self.told(place_of(("rally", POINT), ((), None)), ((), None))
        self.told(place_of(("rally", POINT), ((), (0,))), ((), (0,)))
        self.told(place_of(("rally", unit(2, 2, 9)), ((4, 4, ()), None)), ((4, 4, ()), None))

    def test_a_rally_as_cut_tells(self):
        source = random.Random(59)
        for rule in RULES:
            game = ("rally", rule)
            for stand in walk(game, source, 60):
                self.told(place_of(game, stand), (cut(rule, stand[0]), stand[1]))

    def test_others_are_the_stand_itself(self):
        source = random.Random(61)
        for game in [("down", down) for down in DOWNS] + [("lane", lane) for lane in LANES]:
            for stand in walk(game, source, 60):
                self.told(place_of(game, stand), stand)

    def test_rows_of_deeds_from_a_stand_and_its_place(self):
        source = random.Random(67)
        for game in [("rally", rule) for rule in RULES] + OVER_GAMES:
            for row in (rows_for(source, 50) if game[0] == "rally" else [[]]):
                stand = first(game)
                for side in row:
                    if stand[1] is None:
                        stand = played(game, stand, side)
                self.ends_alike(game, stand, place_of(game, stand), source)

    def ends_alike(self, game, one, other, source):
        for _ in range(60):
            self.told(deeds_at(game, one), deeds_at(game, other))
            self.told(one[1], other[1])
            self.told(place_of(game, one), place_of(game, other))
            if one[1] is not None:
                return
            deed = source.choice(deeds_at(game, one))
            one, other = played(game, one, deed), played(game, other, deed)


class Shown(GameCase):
    def shows(self, game, stand, text):
        self.told(shown(game, stand), text)

    def test_the_told_examples(self):
        rule = unit(3, 1, None, unit(6, 2, 7))
        self.shows(("rally", rule), ((2, 1, (3, 3, ())), None), "2-1 3-3")
        self.shows(("rally", rule), ((3, 1, ()), (0,)), "3-1 won 0")
        self.shows(("rally", POINT), ((), (1,)), "- won 1")

    def test_point(self):
        game = ("rally", POINT)
        self.shows(game, first(game), "-")
        self.shows(game, played(game, first(game), 0), "- won 0")
        self.shows(game, played(game, first(game), 1), "- won 1")

    def test_units_from_the_outer_one_inwards(self):
        self.shows(("rally", unit(9)), ((0, 0, ()), None), "0-0")
        self.shows(("rally", unit(11, 2)), ((10, 11, ()), None), "10-11")
        self.shows(MATCH, first(MATCH), "0-0 0-0 0-0")
        self.shows(MATCH, ((1, 0, (2, 5, (3, 1, ()))), None), "1-0 2-5 3-1")
        deep = unit(2, 1, None, unit(3, 1, None, unit(4, 1, None, unit(5))))
        self.shows(("rally", deep), ((0, 1, (2, 0, (1, 3, (4, 2, ())))), None), "0-1 2-0 1-3 4-2")
        self.shows(("rally", unit(2, 2, 2, unit(3), POINT)), ((1, 1, ()), None), "1-1")

    def test_rallies_that_are_over(self):
        self.shows(MATCH, ((2, 0, ()), (0,)), "2-0 won 0")
        self.shows(MATCH, ((1, 2, ()), (1,)), "1-2 won 1")
        self.shows(("rally", unit()), after(("rally", unit()), [1]), "0-1 won 1")

    def test_rallies_that_were_played(self):
        self.shows(MATCH, after(MATCH, [0] * 4 + [1] * 3), "0-0 1-0 0-3")
        self.shows(MATCH, after(MATCH, [0] * 24), "1-0 0-0 0-0")
        self.shows(MATCH, after(MATCH, [0] * 48), "2-0 won 0")

    def test_downs(self):
        self.shows(("down", (1, 7, 3, THROWS)), (((7,), 0, 0, 7), None), "7")
        self.shows(DOWN, first(DOWN), "7 7")
        self.shows(DOWN, after(DOWN, ["three"]), "4 7")
        self.shows(DOWN, after(DOWN, ["three", "two", "two"]), "0 7 won 0")
        game = ("down", (3, 1000000, 1, THROWS))
        self.shows(game, after(game, ["two", "three"]), "999998 999997 1000000")
        game = ("down", (3, 2, 1, THROWS))
        self.shows(game, after(game, ["one", "nil", "two"]), "1 2 0 won 2")
        game = ("down", (1, 2, 1, THROWS))
        self.shows(game, after(game, ["two"]), "0 won 0")

    def test_lanes(self):
        game = ("lane", (1, 10, 2))
        self.shows(game, first(game), "0")
        self.shows(game, after(game, [10, 3]), "16")
        self.shows(game, after(game, [10, 3, 4]), "24 won 0")
        self.shows(LANE, first(LANE), "0 0")
        self.shows(LANE, after(LANE, [10, 3, 4, 5]), "20 7")
        game = ("lane", (3, 3, 1))
        self.shows(game, after(game, [1, 1, 1]), "2 1 0")
        self.shows(game, after(game, [1, 0, 0, 2, 0, 0]), "1 2 0 won 1")

    def test_several_winners(self):
        game = ("lane", (3, 3, 1))
        self.shows(game, after(game, [1, 1, 0, 1, 2, 0]), "2 1 2 won 0 2")
        self.shows(game, after(game, [0, 0, 0, 0, 0, 0]), "0 0 0 won 0 1 2")
        game = ("lane", (2, 3, 1))
        self.shows(game, after(game, [1, 1, 1, 1]), "2 2 won 0 1")


if __name__ == "__main__":
    unittest.main()
