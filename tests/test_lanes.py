import copy
import itertools
import random
import unittest

from samples import GREAT, NO_NUMBERS, THINGS, same
from tally.errors import NoPins, ScoreError
from tally.lanes import best_of, is_lane, lane_begun, lane_bowled

LANES = [(sides, pins, frames) for sides in (1, 2, 3) for pins in (1, 2, 3, 10, 20) for frames in (1, 2, 3, 10, 12)]
TEN = (1, 10, 10)


def parted(balls, pins, frames):
    """The balls of one side, parted into its frames, the extra balls lying apart as the last part."""
    parts = []
    balls = list(balls)
    while balls and len(parts) < frames:
        size = 1 if balls[0] == pins else 2
        parts.append(balls[:size])
        balls = balls[size:]
    return parts, balls


def sheet_row(balls, pins, frames):
    """A side's seven numbers, read from the sheet of all its balls."""
    parts, extras = parted(balls, pins, frames)
    total = wanted_next = wanted_after = done = ball = 0
    up, extra = pins, 0
    place = 0
    for number, part in enumerate(parts):
        place += len(part)
        full = sum(part) == pins
        bonus = (2 if len(part) == 1 else 1) if full else 0
        coming = balls[place:place + bonus]
        total += sum(part) + sum(coming)
        wanted_next += len(coming) < bonus
        wanted_after += len(coming) + 1 < bonus
        if not full and len(part) == 1:
            ball, up = 1, pins - part[0]
        elif full and number == frames - 1 and len(extras) < bonus:
            extra = bonus - len(extras)
            up = pins - sum(extras) % pins
        else:
            done += 1
    return (done, ball, up, wanted_next, wanted_after, extra, total)


def sheet(lane, sheets):
    sides, pins, frames = lane
    rows = tuple(sheet_row(balls, pins, frames) for balls in sheets)
    dones = [row[0] for row in rows]
    return (rows, dones.index(min(dones))), min(dones) == frames


class LaneCase(unittest.TestCase):
    def told(self, found, wanted):
        self.assertTrue(same(found, wanted), (found, wanted))

    def bowled(self, lane, balls):
        told = (lane_begun(lane), False)
        for pins in balls:
            self.assertIs(told[1], False)
            told = lane_bowled(lane, told[0], pins)
        return told

    def bowls(self, lane, balls, stand, over=False):
        self.told(self.bowled(lane, balls), (stand, over))


class IsLane(unittest.TestCase):
    def holds(self, thing):
        self.assertIs(is_lane(thing), True, thing)

    def fails(self, thing):
        self.assertIs(is_lane(thing), False, thing)

    def test_all_bounds(self):
        for lane in itertools.product((1, 2, 3), (1, 2, 10, 19, 20), (1, 2, 10, 11, 12)):
            self.holds(lane)

    def test_each_number_beyond_its_bounds(self):
        for place, most in enumerate((3, 20, 12)):
            for thing in [0, -1, most + 1, most + 2, 100, GREAT, -GREAT] + NO_NUMBERS:
                lane = [2, 10, 10]
                lane[place] = thing
                self.fails(tuple(lane))

    def test_a_thing_more_or_fewer(self):
        for length in range(3):
            self.fails(TEN[:length])
        self.fails(TEN + (1,))
        self.fails(TEN + (None,))
        self.fails(TEN + TEN)
        self.fails((TEN,))

    def test_a_list(self):
        self.fails(list(TEN))
        self.fails([1, 1, 1])

    def test_other_things(self):
        for thing in THINGS:
            if thing != (1, 1, 1):
                self.fails(thing)
            self.fails([thing])
            self.fails((thing, thing))

    def test_what_is_handed_in_stays(self):
        things = THINGS + [list(TEN), ([1], 2, 3)]
        before = copy.deepcopy(things)
        for thing in things:
            is_lane(thing)
        self.assertTrue(same(things, before))


class Begun(LaneCase):
    def test_begun(self):
        self.told(lane_begun((1, 10, 10)), (((0, 0, 10, 0, 0, 0, 0),), 0))
        self.told(lane_begun((2, 1, 12)), (((0, 0, 1, 0, 0, 0, 0),) * 2, 0))
        self.told(lane_begun((3, 20, 1)), (((0, 0, 20, 0, 0, 0, 0),) * 3, 0))


class Bowled(LaneCase):
    def test_an_open_frame(self):
        self.bowls(TEN, [3], (((0, 1, 7, 0, 0, 0, 3),), 0))
        self.bowls(TEN, [3, 6], (((1, 0, 10, 0, 0, 0, 9),), 0))
        self.bowls(TEN, [0], (((0, 1, 10, 0, 0, 0, 0),), 0))
        self.bowls(TEN, [0, 0], (((1, 0, 10, 0, 0, 0, 0),), 0))

    def test_a_spare(self):
        self.bowls(TEN, [3, 7], (((1, 0, 10, 1, 0, 0, 10),), 0))
        self.bowls(TEN, [0, 10], (((1, 0, 10, 1, 0, 0, 10),), 0))
        self.bowls(TEN, [3, 7, 4], (((1, 1, 6, 0, 0, 0, 18),), 0))
        self.bowls(TEN, [3, 7, 4, 2], (((2, 0, 10, 0, 0, 0, 20),), 0))
        self.bowls(TEN, [3, 7, 10], (((2, 0, 10, 1, 1, 0, 30),), 0))

    def test_a_strike(self):
        self.bowls(TEN, [10], (((1, 0, 10, 1, 1, 0, 10),), 0))
        self.bowls(TEN, [10, 3], (((1, 1, 7, 1, 0, 0, 16),), 0))
        self.bowls(TEN, [10, 3, 4], (((2, 0, 10, 0, 0, 0, 24),), 0))
        self.bowls(TEN, [10, 3, 7], (((2, 0, 10, 1, 0, 0, 30),), 0))

    def test_strikes_in_a_row(self):
        self.bowls(TEN, [10, 10], (((2, 0, 10, 2, 1, 0, 30),), 0))
        self.bowls(TEN, [10, 10, 10], (((3, 0, 10, 2, 1, 0, 60),), 0))
        self.bowls(TEN, [10, 10, 4], (((2, 1, 6, 1, 0, 0, 42),), 0))
        self.bowls(TEN, [10, 10, 4, 5], (((3, 0, 10, 0, 0, 0, 52),), 0))

    def test_the_last_frame_with_two_extra_balls(self):
        lane = (1, 10, 1)
        self.bowls(lane, [10], (((0, 0, 10, 1, 1, 2, 10),), 0))
        self.bowls(lane, [10, 4], (((0, 0, 6, 1, 0, 1, 14),), 0))
        self.bowls(lane, [10, 4, 6], (((1, 0, 10, 0, 0, 0, 20),), 0), True)
        self.bowls(lane, [10, 4, 3], (((1, 0, 10, 0, 0, 0, 17),), 0), True)
        self.bowls(lane, [10, 10], (((0, 0, 10, 1, 0, 1, 20),), 0))
        self.bowls(lane, [10, 10, 10], (((1, 0, 10, 0, 0, 0, 30),), 0), True)
        self.bowls(lane, [10, 0], (((0, 0, 10, 1, 0, 1, 10),), 0))
        self.bowls(lane, [10, 0, 10], (((1, 0, 10, 0, 0, 0, 20),), 0), True)

    def test_the_last_frame_with_one_extra_ball(self):
        lane = (1, 10, 1)
        self.bowls(lane, [4, 6], (((0, 0, 10, 1, 0, 1, 10),), 0))
        self.bowls(lane, [4, 6, 3], (((1, 0, 10, 0, 0, 0, 13),), 0), True)
        self.bowls(lane, [4, 6, 10], (((1, 0, 10, 0, 0, 0, 20),), 0), True)
        self.bowls(lane, [0, 10, 0], (((1, 0, 10, 0, 0, 0, 10),), 0), True)

    def test_the_last_frame_without_extra_balls(self):
        self.bowls((1, 10, 1), [4, 5], (((1, 0, 10, 0, 0, 0, 9),), 0), True)
        self.bowls((1, 10, 2), [10, 4, 5], (((2, 0, 10, 0, 0, 0, 28),), 0), True)

    def test_a_last_strike_behind_strikes(self):
        lane = (1, 10, 2)
        self.bowls(lane, [10, 10], (((1, 0, 10, 2, 1, 2, 30),), 0))
        self.bowls(lane, [10, 10, 3], (((1, 0, 7, 1, 0, 1, 36),), 0))
        self.bowls(lane, [10, 10, 3, 4], (((2, 0, 10, 0, 0, 0, 40),), 0), True)

    def test_only_the_last_frame_has_extra_balls(self):
        self.bowls((1, 10, 3), [10, 10], (((2, 0, 10, 2, 1, 0, 30),), 0))
        self.bowls((1, 10, 2), [4, 6], (((1, 0, 10, 1, 0, 0, 10),), 0))

    def test_one_pin(self):
        lane = (1, 1, 2)
        self.bowls(lane, [1], (((1, 0, 1, 1, 1, 0, 1),), 0))
        self.bowls(lane, [0], (((0, 1, 1, 0, 0, 0, 0),), 0))
        self.bowls(lane, [0, 1], (((1, 0, 1, 1, 0, 0, 1),), 0))
        self.bowls(lane, [0, 0], (((1, 0, 1, 0, 0, 0, 0),), 0))
        self.bowls(lane, [1, 1], (((1, 0, 1, 2, 1, 2, 3),), 0))
        self.bowls(lane, [1, 1, 1], (((1, 0, 1, 1, 0, 1, 5),), 0))
        self.bowls(lane, [1, 1, 1, 0], (((2, 0, 1, 0, 0, 0, 5),), 0), True)

    def test_known_totals(self):
        self.assertEqual(self.bowled(TEN, [10] * 12)[0][0][0][6], 300)
        self.assertEqual(self.bowled(TEN, [5] * 21)[0][0][0][6], 150)
        self.assertEqual(self.bowled(TEN, [9, 0] * 10)[0][0][0][6], 90)
        balls = [1, 4, 4, 5, 6, 4, 5, 5, 10, 0, 1, 7, 3, 6, 4, 10, 2, 8, 6]
        self.bowls(TEN, balls, (((10, 0, 10, 0, 0, 0, 133),), 0), True)

    def test_whose_turn_it_is(self):
        lane = (3, 10, 2)
        sides = []
        stand = lane_begun(lane)
        for pins in [3, 4, 10, 5, 5, 10, 0, 0, 10, 1, 2]:
            stand, over = lane_bowled(lane, stand, pins)
            sides.append(stand[1])
        self.assertEqual(sides, [0, 1, 2, 2, 0, 0, 0, 1, 1, 1, 2])
        stand, over = lane_bowled(lane, stand, 10)
        self.assertEqual((stand[1], over), (2, False))
        stand, over = lane_bowled(lane, stand, 10)
        self.assertEqual((stand[1], over), (2, False))
        stand, over = lane_bowled(lane, stand, 10)
        self.assertEqual((stand[1], over), (0, True))

    def test_a_side_that_waits_keeps_its_row(self):
        self.bowls((2, 10, 2), [10], (((1, 0, 10, 1, 1, 0, 10), (0, 0, 10, 0, 0, 0, 0)), 1))
        self.bowls((2, 10, 2), [10, 3, 4], (((1, 0, 10, 1, 1, 0, 10), (1, 0, 10, 0, 0, 0, 7)), 0))
        self.bowls((2, 10, 2), [10, 3, 4, 5], (((1, 1, 5, 1, 0, 0, 20), (1, 0, 10, 0, 0, 0, 7)), 0))

    def test_over_just_where_all_rows_are_done(self):
        self.bowls((2, 2, 1), [0, 1], (((1, 0, 2, 0, 0, 0, 1), (0, 0, 2, 0, 0, 0, 0)), 1))
        self.bowls((2, 2, 1), [0, 1, 1], (((1, 0, 2, 0, 0, 0, 1), (0, 1, 1, 0, 0, 0, 1)), 1))
        self.bowls((2, 2, 1), [0, 1, 1, 0], (((1, 0, 2, 0, 0, 0, 1), (1, 0, 2, 0, 0, 0, 1)), 0), True)

    def test_many_rows_against_the_sheet(self):
        source = random.Random(31)
        for lane in LANES:
            for ways in (("any",), ("all", "any"), ("all", "all", "none"), ("all",), ("any", "all"), ("none", "all")):
                self.follows(lane, lambda up: self.pick(source, ways, up))

    def pick(self, source, ways, up):
        way = source.choice(ways)
        return {"any": source.randint(0, up), "all": up, "none": 0}[way]

    def test_each_short_row_against_the_sheet(self):
        for lane in ((1, 2, 2), (2, 1, 2), (3, 1, 1), (1, 3, 1), (2, 2, 1)):
            for row in itertools.product(range(lane[1] + 1), repeat=8):
                coming = list(row)
                self.follows(lane, lambda up: min(coming.pop(0), up) if coming else None)

    def follows(self, lane, choose):
        sheets = [[] for _ in range(lane[0])]
        stand, over = lane_begun(lane), False
        while not over:
            pins = choose(stand[0][stand[1]][2])
            if pins is None:
                return
            sheets[stand[1]].append(pins)
            stand, over = lane_bowled(lane, stand, pins)
            self.told((stand, over), sheet(lane, sheets))

    def test_what_is_handed_in_stays(self):
        lane = (2, 10, 2)
        stand = self.bowled(lane, [10, 3])[0]
        before = copy.deepcopy((lane, stand))
        told = lane_bowled(lane, stand, 2)
        kept = copy.deepcopy(told)
        lane_bowled(lane, stand, 7)
        lane_bowled(lane, told[0], 10)
        best_of(stand)
        self.assertTrue(same((lane, stand), before))
        self.assertTrue(same(told, kept))
        self.told(lane_bowled(lane, stand, 2), kept)


class Refused(LaneCase):
    def refused(self, lane, stand, pins):
        before = copy.deepcopy((lane, stand, pins))
        with self.assertRaises(NoPins, msg=repr(pins)) as caught:
            lane_bowled(lane, stand, pins)
        self.assertIs(type(caught.exception), NoPins)
        self.assertIsInstance(caught.exception, ScoreError)
        self.assertTrue(same((lane, stand, pins), before))

    def test_up_itself_is_taken_and_one_more_is_not(self):
        for balls in ([], [3], [3, 7], [0], [10], [10, 10, 4], [9]):
            stand = self.bowled(TEN, balls)[0]
            up = stand[0][0][2]
            for pins in range(up + 1):
                lane_bowled(TEN, stand, pins)
            for pins in (up + 1, up + 2, 21, 1000, GREAT):
                self.refused(TEN, stand, pins)

    def test_extra_balls(self):
        for balls in ([10], [10, 4], [10, 10], [4, 6]):
            stand = self.bowled((1, 10, 1), balls)[0]
            up = stand[0][0][2]
            lane_bowled((1, 10, 1), stand, up)
            self.refused((1, 10, 1), stand, up + 1)
            self.refused((1, 10, 1), stand, -1)
            self.refused((1, 10, 1), stand, True)

    def test_below_nought(self):
        for pins in (-1, -2, -10, -GREAT):
            self.refused(TEN, lane_begun(TEN), pins)

    def test_things_that_are_no_number(self):
        for thing in NO_NUMBERS + [[3], (3,), "3", "up", None, [], {}]:
            self.refused(TEN, lane_begun(TEN), thing)
            self.refused(TEN, self.bowled(TEN, [4])[0], thing)

    def test_the_turns_own_pins_count(self):
        lane = (2, 10, 2)
        stand = self.bowled(lane, [10, 8])[0]
        self.refused(lane, stand, 3)
        self.told(lane_bowled(lane, stand, 2)[0][0][1], (1, 0, 10, 1, 0, 0, 10))

    def test_the_stand_is_played_on_as_before(self):
        stand = self.bowled(TEN, [4])[0]
        self.refused(TEN, stand, 7)
        self.refused(TEN, stand, "6")
        self.told(lane_bowled(TEN, stand, 6), ((((1, 0, 10, 1, 0, 0, 10),), 0), False))


class BestOf(LaneCase):
    def best(self, totals):
        rows = tuple((0, 0, 10, 0, 0, 0, total) for total in totals)
        return best_of((rows, 0))

    def test_one_best_side(self):
        self.told(self.best([5]), (0,))
        self.told(self.best([5, 4]), (0,))
        self.told(self.best([4, 5]), (1,))
        self.told(self.best([4, 5, 4]), (1,))
        self.told(self.best([4, 5, 6]), (2,))
        self.told(self.best([9, 10, 8]), (1,))

    def test_several_best_sides_rising(self):
        self.told(self.best([5, 5]), (0, 1))
        self.told(self.best([5, 5, 4]), (0, 1))
        self.told(self.best([5, 4, 5]), (0, 2))
        self.told(self.best([4, 5, 5]), (1, 2))
        self.told(self.best([0, 0, 0]), (0, 1, 2))

    def test_of_any_stand(self):
        lane = (3, 10, 2)
        self.told(best_of(lane_begun(lane)), (0, 1, 2))
        self.told(best_of(self.bowled(lane, [3])[0]), (0,))
        self.told(best_of(self.bowled(lane, [3, 0, 3])[0]), (0, 1))
        self.told(best_of(self.bowled(lane, [0, 0, 3])[0]), (1,))
        self.told(best_of(self.bowled((1, 10, 1), [3, 4])[0]), (0,))

    def test_the_total_alone_counts(self):
        rows = ((2, 0, 10, 0, 0, 0, 7), (1, 1, 3, 9, 9, 2, 8))
        self.told(best_of((rows, 0)), (1,))


if __name__ == "__main__":
    unittest.main()
