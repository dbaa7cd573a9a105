import random
import unittest

from samples import RULES, TENNIS_SET, RefusalCase, same, unit
from tally.books import Book
from tally.desk import Desk
from tally.ends import soonest
from tally.errors import BadWord, Falls, NoDeed, NoGame, NoLine, NoPins, NoSide, NoThrow, Over, TooMany
from tally.games import deeds_at, place_of, shown, sides_of
from tally.gamewords import read_game, show_game
from tally.lasting import lasting
from tally.likes import alike
from tally.rulewords import show_rule
from tally.stakes import stakes
from tally.wins import can_win
from walks import SMALL_GAMES

RALLY = "game rally unit 2 1 - unit 2 2 - point - -"
DOWN = "game down 2 4 2 two:2! one:1"
LANE = "game lane 2 10 1"
KINDS = ((RALLY, NoSide), (DOWN, NoThrow), (LANE, NoPins))
GOOD_LINES = [
    "add 0", "add two", "add ", "back", "put 1 0", "put 0 ", "insert 1 0", "insert 9999 x", "drop 1", "drop 0", "show",
    "deeds", "win 0", "win 9999", "soonest", "last", "stakes 0", "stakes 9999", "like point", "like ", "like  ",
    "like nothing of the kind",
]
# Words that write no number of one to four figures, none with a 0 ahead but 0 itself.
NO_NUMBERS = [
    "", "x", "00", "01", "007", "0001", "10000", "12345", "-1", "+1", "-0", "1.", "1,0", "one", "1x", "0x1", "1_0",
]
NO_LINES = [
    "", " ", "  ", "x", "-", "Game", "GAME lane 1 1 1", "games", "gam", "game", "like", "add", "put", "insert", "drop",
    "win", "stakes", "put 1", "insert 1", "put 1 0 0", "insert 1 0 0", "add 0 0", "add 0 ", "add  0", " add 0",
    "drop 1 1", "drop 1 ", "drop  1", "back 1", "back ", " back", "show 1", "show ", " show", "deeds ", "deeds 1",
    "win 0 1", "win 0 ", "win  0", " win 0", "soonest 1", "soonest ", "last 1", "last ", "stakes 0 1", "stakes 0 ",
    " game lane 1 1 1", " like point", "put  1 0", "put 1  0", "put 1 0 ", " put 1 0", "insert 1  0", "quit", "help",
    "ok", "0", "1", "add:0", "put_right 1 0", "leave_out 1", "undo", "ADD 0", "Show", "lasting", "stake 0", "wins 0",
] + [
    form.replace("N", word) for form in ("put N 0", "insert N 0", "drop N", "win N", "stakes N") for word in NO_NUMBERS
]


def told(*lines):
    """A desk that was told these lines."""
    desk = Desk()
    for line in lines:
        desk.say(line)
    return desk


class DeskCase(RefusalCase):
    def says(self, desk, line, answer):
        self.assertTrue(same(desk.say(line), answer), (line, answer))

    def falls(self, at, desk, line):
        self.assertTrue(same(self.refused(Falls, desk.say, line).at, at), line)

    def bad_word(self, at, desk, line):
        self.assertTrue(same(self.refused(BadWord, desk.say, line).at, at), line)


class Lines(DeskCase):
    def test_a_rally(self):
        desk = Desk()
        for line, answer in (
            (RALLY, "ok"), ("deeds", "-"), ("show", "0-0 0-0"), ("soonest", "4"), ("last", "for ever"), ("add 0", "1"),
            ("add 1", "2"), ("add 0", "3"), ("show", "0-0 2-1"), ("stakes 0", "1"), ("stakes 1", "0"), ("add 0", "4"),
            ("show", "1-0 0-0"), ("deeds", "0 1 0 0"), ("soonest", "2"), ("win 0", "yes"), ("win 1", "yes"),
            ("put 3 1", "ok"), ("show", "0-0 2-2"), ("insert 5 1", "ok"), ("deeds", "0 1 1 0 1"), ("insert 1 1", "ok"),
            ("show", "0-1 1-1"), ("deeds", "1 0 1 1 0 1"), ("drop 5", "ok"), ("show", "0-1 0-1"), ("stakes 1", "2"),
            ("stakes 0", "0"), ("back", "1"), ("back", "1"), ("back", "1"), ("back", "0"), ("deeds", "1"),
        ):
            self.says(desk, line, answer)

    def test_a_down(self):
        desk = Desk()
        for line, answer in (
            (DOWN, "ok"), ("show", "4 4"), ("deeds", "-"), ("soonest", "2"), ("last", "for ever"), ("win 0", "yes"),
            ("win 1", "yes"), ("add one", "1"), ("add two", "2"), ("show", "1 4"), ("deeds", "one two"),
            ("win 0", "no"),
            ("put 2 one", "ok"), ("show", "2 4"), ("insert 3 two", "ok"), ("insert 4 two", "ok"), ("show", "2 0 won 1"),
            ("soonest", "0"), ("last", "most 0"), ("win 1", "yes"), ("win 0", "no"), ("back", "two"), ("drop 3", "ok"),
            ("deeds", "one one"), ("back", "one"), ("back", "one"), ("deeds", "-"),
        ):
            self.says(desk, line, answer)

    def test_a_lane(self):
        desk = Desk()
        for line, answer in (
            ("game lane 2 3 1", "ok"), ("show", "0 0"), ("soonest", "4"), ("last", "most 6"), ("add 3", "1"),
            ("add 3", "2"), ("add 1", "3"), ("show", "7 0"), ("deeds", "3 3 1"), ("last", "most 3"), ("add 1", "4"),
            ("win 1", "no"), ("win 0", "yes"), ("add 2", "5"), ("add 3", "6"), ("show", "7 6 won 0"),
            ("last", "most 0"),
            ("put 3 0", "ok"), ("show", "6 6 won 0 1"), ("win 0", "yes"), ("win 1", "yes"), ("soonest", "0"),
            ("back", "3"), ("drop 5", "ok"), ("insert 4 0", "ok"), ("show", "6 1 won 0"),
            ("deeds", "3 3 0 0 1"),
        ):
            self.says(desk, line, answer)

    def test_never(self):
        desk = told("game down 1 5 1 nil:0!")
        self.says(desk, "soonest", "never")
        self.says(desk, "last", "for ever")
        self.says(desk, "win 0", "no")

    def test_numbers_of_two_figures(self):
        desk = told("game lane 1 20 12")
        self.says(desk, "add 20", "1")
        self.says(desk, "add 10", "2")
        self.says(desk, "add 10", "3")
        self.says(desk, "back", "10")
        self.says(desk, "deeds", "20 10")
        desk = told("game rally unit 99 1 - point -", *["add 0", "add 1"] * 60)
        self.says(desk, "add 1", "121")
        self.says(desk, "put 100 0", "ok")
        self.says(desk, "drop 121", "ok")
        self.says(desk, "show", "61-59")

    def test_the_longest_most(self):
        desk = told("game rally unit 20 1 - point -")
        self.says(desk, "last", "most 39")
        self.says(desk, "soonest", "20")
        self.says(told("game rally point"), "last", "most 1")

    def test_like(self):
        desk = told("game rally unit 3 1 - point -")
        for words, answer in (
            ("unit 3 1 - point -", "alike"), ("unit 3 1 3 point -", "alike"),
            ("unit 3 1 7 point unit 4 1 - point -", "alike"),
            ("unit 1 1 - unit 3 1 - point - -", "alike"), ("unit 3 2 - point -", "unlike"), ("point", "unlike"),
            ("unit 4 1 - point -", "unlike"),
        ):
            self.says(desk, "like " + words, answer)
        desk.say("add 0")
        self.says(desk, "like unit 3 1 - point -", "alike")
        desk.say("add 0")
        desk.say("add 0")
        self.says(desk, "show", "3-0 won 0")
        self.says(desk, "like unit 3 1 - point -", "alike")
        self.says(desk, "like point", "unlike")
        self.says(told("game rally point"), "like point", "alike")

    def test_a_game_told_anew(self):
        desk = told(RALLY, "add 0")
        self.says(desk, DOWN, "ok")
        self.says(desk, "deeds", "-")
        self.says(desk, "show", "4 4")
        self.says(desk, "add two", "1")
        self.says(desk, DOWN, "ok")
        self.says(desk, "show", "4 4")
        self.says(desk, LANE, "ok")
        self.says(desk, "show", "0 0")

    def test_games_of_all_kinds(self):
        for game in SMALL_GAMES + [("rally", rule) for rule in RULES]:
            desk = Desk()
            self.says(desk, "game " + show_game(game), "ok")
            self.says(desk, "show", shown(game, Book(game).stand()))


class NoSuchLine(DeskCase):
    def test_with_a_game_and_without(self):
        for line in NO_LINES:
            self.refused(NoLine, Desk().say, line)
            for words, refusal in KINDS:
                self.refused(NoLine, told(words).say, line)

    def test_the_book_stays(self):
        for words, deed in ((RALLY, "1"), (DOWN, "one"), (LANE, "7")):
            desk = told(words, "add " + deed)
            for line in NO_LINES:
                self.refused(NoLine, desk.say, line)
            self.says(desk, "deeds", deed)

    def test_stakes_and_like_where_it_is_no_rally(self):
        for words in (DOWN, LANE):
            desk = told(words)
            for line in (
                "stakes 0", "stakes 1", "stakes 2", "stakes 9999", "like point", "like unit 2 2 - point -", "like ",
                "like x", "like " + "unit 9 9 - " * 5, "like point point",
            ):
                self.refused(NoLine, desk.say, line)
        for lines in ((DOWN, "add two", "add two"), ("game lane 1 1 1", "add 0", "add 0")):
            self.refused(NoLine, told(*lines).say, "stakes 0")
            self.refused(NoLine, told(*lines).say, "like point")

    def test_stakes_where_it_is_over(self):
        for lines in (("game rally point", "add 1"), (RALLY, *["add 0"] * 4)):
            desk = told(*lines)
            for side in ("0", "1", "2", "9999"):
                self.refused(NoLine, desk.say, "stakes " + side)
            self.says(desk, "back", lines[-1][-1])
            self.says(desk, "stakes 0", "0" if len(lines) == 2 else "2")


class NoGameTold(DeskCase):
    def test_each_good_line(self):
        for line in GOOD_LINES:
            self.refused(NoGame, Desk().say, line)

    def test_a_game_that_is_refused_is_none(self):
        desk = Desk()
        self.bad_word(0, desk, "game x")
        for line in GOOD_LINES:
            self.refused(NoGame, desk.say, line)
        self.says(desk, LANE, "ok")
        self.says(desk, "deeds", "-")

    def test_what_a_book_refuses_is_still_a_good_line(self):
        for words, refusal in KINDS:
            for line in GOOD_LINES:
                try:
                    told(words).say(line)
                except NoLine:
                    self.assertIn(line.split(" ")[0], ("stakes", "like"))
                except (NoSide, NoThrow, NoPins, NoDeed, Falls, BadWord, TooMany):
                    pass


class BadWords(DeskCase):
    def test_behind_game(self):
        for words, at in (
            ("", 0), (" ", 0), ("x", 0), ("Lane 1 1 1", 0), ("lane", 1), ("lane ", 1), ("lane 1 1", 3),
            ("lane 1 1 1 1", 4), ("lane 1 1 1 ", 4), ("lane  1 1 1", 1), ("lane 4 1 1", 1), ("lane 01 1 1", 1),
            ("rally", 1), ("rally ", 1), ("rally x", 1), ("rally point point", 2), ("rally unit 2 1 - point", 6),
            ("rally unit 2 0 - point -", 3),
            ("down", 1), ("down 2 4 2", 4), ("down 2 4 2 two:2 two:1", 5), ("down 2 4 2 two", 4),
            ("game lane 1 1 1", 0), ("down 2 4 4 two:2", 3),
        ):
            for desk in (Desk(), told(RALLY, "add 1")):
                self.bad_word(at, desk, "game " + words)
            self.says(desk, "deeds", "1")
            self.says(desk, "show", "0-0 0-1")

    def test_behind_like(self):
        desk = told(RALLY, "add 1")
        for words, at in (
            ("", 0), (" ", 0), ("x", 0), ("-", 0), ("rally point", 0), ("point ", 1), ("point point", 1), ("unit", 1),
            ("unit 2 1 -", 4), ("unit 0 1 - point -", 1), ("unit 2 100 - point -", 2), ("unit 2 1 1 point -", 3),
            ("unit 2 1 - point point", 5), ("unit  2 1 - point -", 1), ("unit 2 1 - point - ", 6),
        ):
            self.bad_word(at, desk, "like " + words)
        self.says(desk, "deeds", "1")


class Deeds(DeskCase):
    def test_words_that_are_none(self):
        words = [
            "", "x", "-", "-1", "+1", "01", "00", "001", "100", "000", "1.", "0x0", "1e1", "9999", "Two", "two!", "nil",
        ]
        for line, refusal in KINDS:
            desk = told(line)
            for word in words:
                self.refused(refusal, desk.say, "add " + word)
            self.says(desk, "deeds", "-")

    def test_numbers_that_are_none(self):
        desk = told(RALLY)
        for word in ("2", "9", "10", "11", "99"):
            self.refused(NoSide, desk.say, "add " + word)
        desk = told(LANE)
        for word in ("11", "20", "99"):
            self.refused(NoPins, desk.say, "add " + word)
        desk.say("add 7")
        self.refused(NoPins, desk.say, "add 4")
        self.says(desk, "deeds", "7")

    def test_figures_are_a_word_of_a_down(self):
        desk = told(DOWN)
        for word in ("0", "1", "2", "10"):
            self.refused(NoThrow, desk.say, "add " + word)
            self.falls(1, desk, "insert 1 " + word)
        desk = told("game down 1 5 1 a1:1! b:2")
        self.says(desk, "add a1", "1")
        self.says(desk, "back", "a1")

    def test_over_ahead_of_them(self):
        lane = "game lane 1 1 1"
        for lines in (("game rally point", "add 1"), (DOWN, "add two", "add two"), (lane, "add 0", "add 0")):
            desk = told(*lines)
            for word in ("0", "1", "two", "one", "", "x", "01", "100", "2", "99"):
                self.refused(Over, desk.say, "add " + word)
            self.assertEqual(len(desk.say("deeds").split(" ")), len(lines) - 1)

    def test_within_put_and_insert(self):
        for line, deed in ((RALLY, "0"), (DOWN, "one"), (LANE, "3")):
            desk = told(line, "add " + deed, "add " + deed)
            before = desk.say("deeds")
            for word in ("", "x", "01", "100", "-1", "99"):
                self.falls(1, desk, "put 1 " + word)
                self.falls(2, desk, "put 2 " + word)
                self.falls(1, desk, "insert 1 " + word)
                self.falls(3, desk, "insert 3 " + word)
                for number in ("0", "3", "9999"):
                    self.refused(NoDeed, desk.say, f"put {number} {word}")
                for number in ("0", "4", "9999"):
                    self.refused(NoDeed, desk.say, f"insert {number} {word}")
                self.says(desk, "deeds", before)

    def test_falls_farther_on(self):
        desk = told("game rally unit 2 1 - point -", "add 0", "add 1", "add 0")
        self.falls(3, desk, "put 2 0")
        self.falls(4, desk, "insert 4 0")
        self.falls(4, desk, "insert 4 x")
        self.falls(3, desk, "insert 1 0")
        self.says(desk, "show", "2-1 won 0")
        desk = told("game lane 1 10 2", "add 3", "add 4", "add 10")
        self.falls(2, desk, "put 1 7")
        self.falls(2, desk, "drop 1")
        self.says(desk, "deeds", "3 4 10")

    def test_no_deed(self):
        for line, deed in ((RALLY, "0"), (DOWN, "one"), (LANE, "3")):
            desk = told(line)
            self.refused(NoDeed, desk.say, "back")
            self.refused(NoDeed, desk.say, "drop 1")
            self.refused(NoDeed, desk.say, "put 1 " + deed)
            self.refused(NoDeed, desk.say, "insert 2 " + deed)
            self.says(desk, "insert 1 " + deed, "ok")
            for number in ("0", "2", "10", "9999"):
                self.refused(NoDeed, desk.say, "drop " + number)
            self.says(desk, "drop 1", "ok")
            self.says(desk, "deeds", "-")


class Refused(DeskCase):
    def test_no_side(self):
        games = ("game lane 1 3 1", 1), ("game lane 3 1 1", 3), ("game down 3 2 1 a:1!", 3)
        for line, sides in ((RALLY, 2), (DOWN, 2), *games):
            desk = told(line)
            for side in range(sides):
                self.assertIn(desk.say(f"win {side}"), ("yes", "no"))
            for side in (sides, sides + 1, 10, 9999):
                self.refused(NoSide, desk.say, f"win {side}")
        desk = told(RALLY)
        for side in (2, 3, 10, 9999):
            self.refused(NoSide, desk.say, f"stakes {side}")

    def test_too_many(self):
        for line in ("game rally unit 33 1 - point -", "game lane 2 10 10", "game down 1 1000 1 one:1! all:1000!"):
            desk = told(line)
            for words in ("win 0", "soonest", "last"):
                self.refused(TooMany, desk.say, words)
            self.refused(NoSide, desk.say, "win 3")
        desk = told("game rally unit 33 1 - point -")
        self.refused(TooMany, desk.say, "like unit 33 1 - point -")
        self.refused(TooMany, desk.say, "like unit 33 1 40 point -")
        self.says(desk, "like unit 30 1 - point -", "unlike")
        self.says(told("game down 1 999 1 one:1!"), "soonest", "999")
        self.says(told("game down 1 999 1 one:1!"), "last", "most 999")

    def test_what_comes_of_a_stand_far_on(self):
        desk = told("game rally unit 33 1 - point -", *["add 0", "add 1"] * 10)
        self.says(desk, "soonest", "23")
        self.says(desk, "last", "most 45")
        self.says(desk, "win 1", "yes")
        desk = told("game rally unit 4 2 - point -", *["add 0", "add 1"] * 100)
        self.says(desk, "show", "100-100")
        self.says(desk, "soonest", "2")
        self.says(desk, "last", "for ever")
        self.says(desk, "stakes 0", "0")

    def test_two_desks_beside_one_another(self):
        one, other = told(RALLY), Desk()
        self.refused(NoGame, other.say, "show")
        other.say(RALLY)
        one.say("add 0")
        self.says(other, "deeds", "-")
        other.say("add 1")
        other.say("add 1")
        self.says(one, "deeds", "0")
        one.say(LANE)
        self.says(other, "show", "0-1 0-0")
        self.says(one, "show", "0 0")


class AsTheBookTells(DeskCase):
    def test_rows_of_lines(self):
        source = random.Random(131)
        for game in SMALL_GAMES[::2]:
            desk, book = told("game " + show_game(game)), Book(game)
            for _ in range(12):
                self.turned(desk, book, source)
                self.tells(desk, book)

    def turned(self, desk, book, source):
        """Says a line that is let, and does the same to the book."""
        let = deeds_at(book.game(), book.stand())
        if let == [] or source.random() < 0.2 and book.deeds() != []:
            self.says(desk, "back", str(book.back()))
            return
        deed = source.choice(let)
        if source.random() < 0.5:
            self.says(desk, f"add {deed}", str(book.add(deed)))
            return
        number = source.randint(1, len(book.deeds()) + 1)
        try:
            book.put_in(number, deed)
            self.says(desk, f"insert {number} {deed}", "ok")
        except Falls as refusal:
            self.falls(refusal.at, desk, f"insert {number} {deed}")

    def tells(self, desk, book):
        game, stand = book.game(), book.stand()
        place = place_of(game, stand)
        self.says(desk, "show", shown(game, stand))
        self.says(desk, "deeds", " ".join(map(str, book.deeds())) or "-")
        number = soonest(game, stand)[place]
        self.says(desk, "soonest", "never" if number is None else str(number))
        length = lasting(game, stand)
        self.says(desk, "last", f"most {length[1][place]}" if length[0] == "ends" else "for ever")
        for side in range(sides_of(game)):
            self.says(desk, f"win {side}", "yes" if can_win(game, stand, side)[0] == "row" else "no")
        if game[0] == "rally":
            if stand[1] is None:
                for side in (0, 1):
                    self.says(desk, f"stakes {side}", str(stakes(game[1], stand[0], side)))
            for rule in (game[1], unit(2)):
                self.says(desk, "like " + show_rule(rule), alike(game[1], rule)[0])

    def test_a_match(self):
        game = ("rally", unit(1, 1, 1, TENNIS_SET, TENNIS_SET))
        desk = told("game " + show_game(game))
        self.assertEqual(read_game(show_game(game)), game)
        for number in range(24):
            self.says(desk, "soonest", str(24 - number))
            self.says(desk, "add 0", str(number + 1))
        self.says(desk, "show", "1-0 won 0")


if __name__ == "__main__":
    unittest.main()
