"""What is promised over the whole program, and the names under which all of it is there."""

import importlib
import inspect
import random
import unittest

from tally.books import Book
from tally.ends import soonest, soonest_row
from tally.games import deeds_at, first, place_of, played, sides_of
from tally.lasting import lasting
from tally.wins import can_win
from walks import SMALL_GAMES, played_on, walk

INTERFACE = {
    "rules": ["is_rule(thing)", "depth_of(rule)"],
    "rulewords": ["show_rule(rule)", "read_rule(text)"],
    "rallies": ["begun(rule)", "rallied(rule, stand, side)", "cut(rule, stand)"],
    "stakes": ["stakes(rule, stand, side)"],
    "downs": ["is_down(thing)", "down_begun(down)", "down_thrown(down, stand, name)"],
    "finishes": ["finishes(down, count, left)"],
    "lanes": ["is_lane(thing)", "lane_begun(lane)", "lane_bowled(lane, stand, pins)", "best_of(stand)"],
    "games": [
        "is_game(thing)", "sides_of(game)", "first(game)", "deeds_at(game, stand)", "played(game, stand, deed)",
        "place_of(game, stand)", "shown(game, stand)",
    ],
    "gamewords": ["show_game(game)", "read_game(text)"],
    "places": ["met(game, stand, limit=1000)"],
    "ends": ["soonest(game, stand, limit=1000)", "soonest_row(game, stand, limit=1000)"],
    "wins": ["can_win(game, stand, side, limit=1000)"],
    "lasting": ["lasting(game, stand, limit=1000)"],
    "likes": ["alike(one, other, limit=1000)"],
    "books": ["Book(game)"],
    "desk": ["Desk()"],
}
METHODS = {
    ("books", "Book"): [
        "add(self, deed)", "back(self)", "put_right(self, number, deed)", "put_in(self, number, deed)",
        "leave_out(self, number)", "deeds(self)", "stand(self, number=None)", "units(self)", "game(self)",
    ],
    ("desk", "Desk"): ["say(self, line)"],
}


def rows_of_stands():
    source = random.Random(137)
    for game in SMALL_GAMES:
        for _ in range(2):
            yield game, walk(game, source, 15)


def number_of(game, stand):
    return soonest(game, stand)[place_of(game, stand)]


class Interface(unittest.TestCase):
    def stands_there(self, holder, form):
        name = form.split("(")[0]
        self.assertEqual(name + str(inspect.signature(getattr(holder, name))), form)

    def test_each_name_with_its_arguments(self):
        for module, forms in INTERFACE.items():
            for form in forms:
                self.stands_there(importlib.import_module("tally." + module), form)
        for (module, name), forms in METHODS.items():
            for form in forms:
                self.stands_there(getattr(importlib.import_module("tally." + module), name), form)


class Whole(unittest.TestCase):
    def test_along_any_row_the_soonest_end_falls_by_one_at_most(self):
        for game, stands in rows_of_stands():
            numbers = [number_of(game, stand) for stand in stands]
            for number, behind in zip(numbers, numbers[1:]):
                if behind is not None:
                    self.assertIsNotNone(number)
                    self.assertLessEqual(number - 1, behind)

    def test_no_row_ends_sooner_than_is_told(self):
        for game, stands in rows_of_stands():
            if stands[-1][1] is not None:
                for at, stand in enumerate(stands):
                    self.assertLessEqual(number_of(game, stand), len(stands) - 1 - at)

    def test_who_can_never_win_never_can_again(self):
        for game, stands in rows_of_stands():
            for side in range(sides_of(game)):
                words = [can_win(game, stand, side)[0] for stand in stands]
                self.assertEqual(words, sorted(words, reverse=True))

    def test_ranks_fall_by_each_deed(self):
        for game, stands in rows_of_stands():
            told = lasting(game, stands[0])
            if told[0] == "ends":
                ranks = [told[1][place_of(game, stand)] for stand in stands]
                for rank, behind in zip(ranks, ranks[1:]):
                    self.assertGreater(rank, behind)

    def test_what_may_go_on_for_ever_did_so_before(self):
        for game, stands in rows_of_stands():
            words = [lasting(game, stand)[0] for stand in stands]
            self.assertEqual(words, sorted(words, reverse=True))

    def test_a_row_that_is_told_does_what_is_told_of_it(self):
        for game, stands in rows_of_stands():
            for stand in stands[::3]:
                row = soonest_row(game, stand)
                if row is not None:
                    self.assertIsNotNone(played_on(game, stand, row)[1])
                for side in range(sides_of(game)):
                    told = can_win(game, stand, side)
                    if told[0] == "row":
                        self.assertIn(side, played_on(game, stand, told[1])[1])
                told = lasting(game, stand)
                if told[0] == "for ever":
                    self.assertIsNone(played_on(game, stand, told[1] + told[2] * 5)[1])

    def test_a_row_that_is_told_can_be_written_in_a_book(self):
        for game in SMALL_GAMES:
            row = soonest_row(game, first(game)) or []
            book = Book(game)
            for deed in row:
                book.add(deed)
            self.assertEqual(book.deeds(), row)
            self.assertEqual(book.stand(), played_on(game, first(game), row))
            for number in range(len(row) + 1):
                self.assertEqual(number_of(game, book.stand(number)) or 0, len(row) - number)
            while book.deeds():
                book.back()
            for deed in deeds_at(game, first(game))[:1]:
                book.put_in(1, deed)
                self.assertEqual(book.stand(), played(game, first(game), deed))


if __name__ == "__main__":
    unittest.main()
