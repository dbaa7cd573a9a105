import copy
import re
import unittest

from samples import POINT, RULES, same, unit
from tally.errors import BadWord, ScoreError
from tally.games import is_game
from tally.gamewords import read_game, show_game
from tally.rulewords import read_rule, show_rule

WRITTEN = [
    (("rally", POINT), "rally point"),
    (("rally", unit(11, 2)), "rally unit 11 2 - point -"),
    (
        ("rally", unit(6, 2, 7, unit(4, 2), unit(7, 2))),
        "rally unit 6 2 7 unit 4 2 - point - unit 7 2 - point -",
    ),
    (("rally", unit(1, 9, 1, POINT, POINT)), "rally unit 1 9 1 point point"),
    (("down", (1, 1, 1, (("a", 0, False),))), "down 1 1 1 a:0"),
    (("down", (1, 1, 1, (("a", 0, True),))), "down 1 1 1 a:0!"),
    (("down", (2, 501, 3, (("s20", 20, False), ("d20", 40, True)))), "down 2 501 3 s20:20 d20:40!"),
    (("down", (3, 1000000, 3, (("abcdefgh", 1000000, True),))), "down 3 1000000 3 abcdefgh:1000000!"),
    (
        ("down", (2, 10, 2, (("z", 10, True), ("a9", 1, False), ("a", 9, True)))),
        "down 2 10 2 z:10! a9:1 a:9!",
    ),
    (("lane", (1, 1, 1)), "lane 1 1 1"),
    (("lane", (2, 10, 10)), "lane 2 10 10"),
    (("lane", (3, 20, 12)), "lane 3 20 12"),
]
THIRTY = "down 2 501 3 " + " ".join(f"t{number}:{number}" for number in range(30))
NO_NUMBERS = [
    "", "0", "00", "01", "001", "+1", "-1", "1-", "-", "+", "1.", "1.0", "1e1", "0x1", "1_0", "x", "one", "a1", "1a",
    "!", "1!", "1:", ":1", "\u0663", "\u00b2", "\u0661", "1\u0663", "1\t", "9" * 90, "True", "None", "(", "a:1",
]
NO_THROWS = [
    "", "a", "a1", "1", "!", ":", ":!", "a!", "a:", "a:!", ":1", ":1!", "a::1", "a:1:2", "a:1:", ":a:1", "a:b:1",
    "a:1!!", "!a:1", "a!:1", "a:!1", "a:1!1", "a:1!:", "a:01", "a:00", "a:007!", "a:+1", "a:-1", "a:-0", "a:1000001",
    "a:1000001!", "a:9999999", "a:10000000", "a:" + "9" * 90, "a:x", "a:1x", "a:1.", "a:1_0", "a:\u0663", "a:\u00b2",
    "A:1", "aB:1", "1a:1", "9:1", "a-b:1", "a_:1", "_a:1", "\u00e4:1", "a\u00e4:1", "abcdefghi:1", "a,1",
    "a=1", "a;1", "a.1", "a:1,", "-", "point", "unit", "a:1\t", "a\t:1", "a:None", "a:True", "a:1?", "a/1", "a:/",
]
THROW = re.compile("([a-z][a-z0-9]{0,7}):(0|[1-9][0-9]{0,6})!?")
NUMBER = re.compile("0|[1-9][0-9]*")


def number_fits(word, most):
    return NUMBER.fullmatch(word) is not None and word.isascii() and 1 <= int(word) <= most


def first_wrong_word(text):
    """Where a text of a down or a lane is wrong, None where it is right: by patterns, word by word."""
    words = text.split(" ")
    mosts = {"down": (3, 1000000, 3), "lane": (3, 20, 12)}.get(words[0])
    if mosts is None:
        return 0
    names = []
    for at, word in enumerate(words[1:], 1):
        if at < 4:
            if not number_fits(word, mosts[at - 1]):
                return at
            continue
        throw = THROW.fullmatch(word)
        if words[0] == "lane" or len(names) == 30 or throw is None or int(throw[2]) > 1000000 or throw[1] in names:
            return at
        names.append(throw[1])
    return None if names or words[0] == "lane" and len(words) == 4 else len(words)


class WordsCase(unittest.TestCase):
    def refused(self, text, at):
        with self.assertRaises(BadWord, msg=repr(text)) as caught:
            read_game(text)
        self.assertIs(type(caught.exception), BadWord)
        self.assertIsInstance(caught.exception, ScoreError)
        self.assertTrue(same(caught.exception.at, at), (text, caught.exception.at, at))

    def refused_with(self, text, at, word):
        words = text.split(" ")
        self.refused(" ".join(words[:at] + [word] + words[at + 1:]), at)

    def reads(self, text, game):
        found = read_game(text)
        self.assertTrue(same(found, game), (text, found))


class Written(WordsCase):
    def test_shown(self):
        for game, text in WRITTEN:
            self.assertTrue(same(show_game(game), text), (show_game(game), text))

    def test_read(self):
        for game, text in WRITTEN:
            self.reads(text, game)
            self.assertIs(is_game(read_game(text)), True)

    def test_rallies_are_written_as_their_rules(self):
        for rule in RULES:
            game = ("rally", rule)
            self.assertEqual(show_game(game), "rally " + show_rule(rule))
            self.reads(show_game(game), game)

    def test_downs_of_all_numbers(self):
        for sides in (1, 2, 3):
            for begin in (1, 9, 10, 99, 100, 501, 99999, 100000, 999999, 1000000):
                for turn in (1, 2, 3):
                    game = ("down", (sides, begin, turn, (("x", 1, True), ("y", begin, False))))
                    text = f"down {sides} {begin} {turn} x:1! y:{begin}"
                    self.assertEqual(show_game(game), text)
                    self.reads(text, game)

    def test_throws_of_all_worths_and_names(self):
        for worth in (0, 1, 9, 10, 100, 999999, 1000000):
            for ends, sign in ((True, "!"), (False, "")):
                for name in ("a", "z", "a0", "z9", "abcdefgh", "x1234567"):
                    game = ("down", (2, 5, 3, ((name, worth, ends),)))
                    text = f"down 2 5 3 {name}:{worth}{sign}"
                    self.assertEqual(show_game(game), text)
                    self.reads(text, game)

    def test_thirty_throws(self):
        throws = tuple((f"t{number}", number, False) for number in range(30))
        self.assertEqual(show_game(("down", (2, 501, 3, throws))), THIRTY)
        self.reads(THIRTY, ("down", (2, 501, 3, throws)))

    def test_names_that_are_beginnings_of_one_another(self):
        throws = (("a", 1, False), ("aa", 1, False), ("a1", 1, False))
        self.reads("down 1 5 1 a:1 aa:1 a1:1", ("down", (1, 5, 1, throws)))

    def test_lanes_of_all_numbers(self):
        for sides in range(1, 4):
            for pins in range(1, 21):
                for frames in range(1, 13):
                    game = ("lane", (sides, pins, frames))
                    self.assertEqual(show_game(game), f"lane {sides} {pins} {frames}")
                    self.reads(f"lane {sides} {pins} {frames}", game)

    def test_what_is_handed_in_stays(self):
        before = copy.deepcopy(WRITTEN)
        for game, text in WRITTEN:
            show_game(game)
            read_game(text)
        self.assertTrue(same(WRITTEN, before))


class Refused(WordsCase):
    def test_no_first_word_of_a_kind(self):
        words = [
            "", "-", "Rally", "RALLY", "rallyx", "ral", "downs", "dow", "Down", "lanes", "lan", "Lane", "point", "unit",
            "1", "game", "rally:", "lane\t", "\tdown", "None",
        ]
        for word in words:
            self.refused(word, 0)
            for rest in ("point", "2 10 10", "2 501 3 a:1", "", "x"):
                self.refused(word + " " + rest, 0)

    def test_blanks(self):
        self.refused("", 0)
        self.refused(" ", 0)
        self.refused("  ", 0)
        self.refused(" lane 1 1 1", 0)
        self.refused("lane  1 1 1", 1)
        self.refused("lane 1  1 1", 2)
        self.refused("lane 1 1  1", 3)
        self.refused("lane 1 1 1 ", 4)
        self.refused("lane 1 1 ", 3)
        self.refused("down  1 1 1 a:1", 1)
        self.refused("down 1 1 1  a:1", 4)
        self.refused("down 1 1 1 ", 4)
        self.refused("down 1 1 1 a:1 ", 5)
        self.refused("down 1 1 1 a:1  b:1", 5)
        self.refused("rally  point", 1)
        self.refused("rally point ", 2)
        self.refused("rally ", 1)
        self.refused("rally unit  1 1 - point -", 2)

    def test_numbers(self):
        for word in NO_NUMBERS:
            for at in (1, 2, 3):
                self.refused_with("lane 2 10 10", at, word)
                self.refused_with("down 2 501 3 a:1", at, word)

    def test_numbers_beyond_their_bounds(self):
        for at, words in ((1, ("4", "5", "10", "100")), (2, ("21", "22", "99", "100")), (3, ("13", "20", "100"))):
            for word in words:
                self.refused_with("lane 2 10 10", at, word)
        for at, words in ((1, ("4", "5", "10")), (2, ("1000001", "9999999", "10000000")), (3, ("4", "9", "30"))):
            for word in words:
                self.refused_with("down 2 501 3 a:1", at, word)

    def test_throws(self):
        for word in NO_THROWS:
            self.refused("down 2 501 3 " + word, 4)
            self.refused("down 2 501 3 " + word + " b:1", 4)
            self.refused("down 2 501 3 b:1 " + word, 5)
            self.refused("down 2 501 3 b:1 c:2! " + word + " d:3", 6)

    def test_a_name_that_stood_ahead(self):
        self.refused("down 2 501 3 a:1 a:1", 5)
        self.refused("down 2 501 3 a:1 a:2!", 5)
        self.refused("down 2 501 3 a:1 b:1 a:1", 6)
        self.refused("down 2 501 3 a:1 b:1 b:1 a:1", 6)

    def test_the_thirty_first_throw(self):
        for word in ("more:1", "t0:0", "x", "", "more:1!"):
            self.refused(THIRTY + " " + word, 34)
            self.refused(THIRTY + " " + word + " a:1", 34)

    def test_behind_rally_as_of_the_rule(self):
        texts = [
            "", "-", "x", "Point", "unit", "unit 0", "unit 1 100", "unit 1 1", "unit 1 1 -", "unit 2 1 1 point -",
            "unit 1 1 - point", "unit 1 1 - point point", "unit 1 1 - point - -", "point point", "point -",
            "rally point", "unit 1 1 - " * 5 + "point - - - - -", "unit 01 1 - point -", "unit 1 1 1 point x",
            "unit 1 1 - x -", "unit 1 1  - point -", " point", "point ", "lane 1 1 1",
        ]
        for text in texts:
            with self.assertRaises(BadWord) as caught:
                read_rule(text)
            self.refused("rally " + text, caught.exception.at + 1)
        self.refused("rally x", 1)
        self.refused("rally unit 0 1 - point -", 2)
        self.refused("rally unit 1 1 - point - x", 7)

    def test_lacking_words(self):
        for game, text in WRITTEN:
            words = text.split(" ")
            most = len(words) if game[0] != "down" else 5
            for count in range(1, most):
                self.refused(" ".join(words[:count]), count)
        self.refused("rally", 1)
        self.refused("down", 1)
        self.refused("down 2 501 3", 4)
        self.refused("lane", 1)
        self.refused("lane 2 10", 3)

    def test_words_too_many(self):
        for word in ("", "1", "a:1", "x", "lane"):
            self.refused("lane 2 10 10 " + word, 4)
            self.refused("lane 2 10 10 " + word + " 1", 4)
            self.refused("rally point " + word, 2)

    def test_the_first_wrong_word_counts(self):
        self.refused("lane 0 0 0 0", 1)
        self.refused("lane 1 21 13", 2)
        self.refused("down 1 0 4 x", 2)
        self.refused("down 1 1 4 x", 3)
        self.refused("down 1 1 1 a:1 x y", 5)
        self.refused("down 4", 1)


class Swept(WordsCase):
    def test_each_word_changed(self):
        changes = ["", "-", "0", "1", "3", "4", "12", "13", "20", "21", "01", "1000000", "1000001", "x", "down", "lane"]
        changes += ["a:1", "a:1!", "a:0", "s20:20", "z:1000000!", "z:1000001", "z:01", "z:1!!", ":", "z9999999:1"]
        for text in [text for game, text in WRITTEN if game[0] != "rally"] + [THIRTY]:
            words = text.split(" ")
            for at in range(len(words) + 1):
                for word in changes:
                    self.agrees(" ".join(words[:at] + [word] + words[at + 1:]))
                    self.agrees(" ".join(words[:at] + [word] + words[at:]))
                self.agrees(" ".join(words[:at] + words[at + 1:]))

    def agrees(self, text):
        at = first_wrong_word(text)
        if at is None:
            game = read_game(text)
            self.assertIs(is_game(game), True, text)
            self.assertEqual(show_game(game), text)
        else:
            self.refused(text, at)


if __name__ == "__main__":
    unittest.main()
