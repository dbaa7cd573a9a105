import copy
import unittest

from samples import same
from tally.errors import BadWord
from tally.rules import is_rule
from tally.rulewords import read_rule, show_rule

POINT = ("point",)
UNIT = ("unit", 1, 1, None, POINT, None)

WRITTEN = [
    (POINT, "point"),
    (UNIT, "unit 1 1 - point -"),
    (("unit", 11, 2, None, POINT, None), "unit 11 2 - point -"),
    (("unit", 9, 10, 99, POINT, None), "unit 9 10 99 point -"),
    (("unit", 99, 99, 99, POINT, POINT), "unit 99 99 99 point point"),
    (("unit", 1, 9, 1, POINT, POINT), "unit 1 9 1 point point"),
    (("unit", 10, 1, 10, UNIT, None), "unit 10 1 10 unit 1 1 - point - -"),
    (("unit", 21, 2, 30, POINT, UNIT), "unit 21 2 30 point unit 1 1 - point -"),
    (
        ("unit", 6, 2, 7, ("unit", 4, 2, None, POINT, None), ("unit", 7, 2, None, POINT, None)),
        "unit 6 2 7 unit 4 2 - point - unit 7 2 - point -",
    ),
    (
        ("unit", 2, 1, 3, ("unit", 6, 2, 7, ("unit", 4, 2, 5, POINT, POINT), None), POINT),
        "unit 2 1 3 unit 6 2 7 unit 4 2 5 point point - point",
    ),
]

ONE = "unit 1 1 - point -"
PAIR = "unit 1 1 1 " + ONE + " " + ONE
SEVEN = "unit 2 1 3 " + PAIR + " " + PAIR
FOUR_DEEP = "unit 1 1 - unit 2 1 - unit 3 1 - unit 4 1 - point - - - -"
FOUR_DEEP_BY_LAST = "unit 1 1 1 point unit 2 1 2 point unit 3 1 3 point unit 4 1 4 point point"
TEN = "unit 1 1 1 " + SEVEN + " unit 1 1 - " + ONE + " -"
BASES = [text for rule, text in WRITTEN] + [SEVEN, FOUR_DEEP, FOUR_DEEP_BY_LAST, TEN]

NUMBERS = [str(number) for number in range(1, 100)]
NO_NUMBER_WORDS = [
    "", "-", "0", "00", "01", "09", "+1", "-1", "1-", "+", "--", "100", "999", "001", "1000", "9" * 80,
    "a", "1a", "a1", "ten", "x", "1.", ".1", "1_", "_1", "1e", "0x", "1\t", "\t1", "point", "unit",
    "\u0663", "\u00b2", "1\u0663", "None", "True", ":", "/", "1:", "1/",
]
NO_RULE_WORDS = ["", "-", "Point", "POINT", "Unit", "points", "units", "poin", "1", "10", "None", "unit\t", "(", "~"]


def first_wrong_word(text):
    # Keeps a pile of what is still to come, instead of one call for each rule.
    words = text.split(" ")
    pile = [("rule", 0)]
    units = 0
    to = None
    for at, word in enumerate(words):
        if not pile:
            return at
        wanted, around = pile.pop()
        number = int(word) if word in NUMBERS else None
        if wanted == "number" and number is None:
            return at
        if wanted == "to":
            to = number
            if number is None:
                return at
        if wanted == "cap":
            if word != "-" and (number is None or number < to):
                return at
            pile.append(("none" if word == "-" else "last", around))
            pile.append(("rule", around))
        if wanted in ("rule", "last", "none") and not (word == "-" and wanted != "rule"):
            if wanted == "none" or word not in ("point", "unit"):
                return at
            if word == "unit":
                units += 1
                if units > 10 or around > 3:
                    return at
                pile += [("cap", around + 1), ("number", 0), ("to", 0)]
    return len(words) if pile else None


class WordsCase(unittest.TestCase):
    def refused(self, text, at):
        with self.assertRaises(BadWord, msg=repr(text)) as caught:
            read_rule(text)
        self.assertEqual(caught.exception.at, at, repr(text))
        self.assertIs(type(caught.exception.at), int)

    def refused_with(self, words, at, word):
        self.refused(" ".join(words[:at] + [word] + words[at + 1:]), at)


class Written(WordsCase):
    def test_shown(self):
        for rule, text in WRITTEN:
            self.assertEqual(show_rule(rule), text)
            self.assertIs(type(show_rule(rule)), str)

    def test_read(self):
        for rule, text in WRITTEN:
            self.assertTrue(same(read_rule(text), rule), text)

    def test_read_and_shown_again(self):
        for text in BASES:
            rule = read_rule(text)
            self.assertIs(is_rule(rule), True)
            self.assertEqual(show_rule(rule), text)
            self.assertTrue(same(read_rule(show_rule(rule)), rule))

    def test_every_number(self):
        for number in range(1, 100):
            for rule, text in [
                (("unit", number, 1, None, POINT, None), f"unit {number} 1 - point -"),
                (("unit", 1, number, None, POINT, None), f"unit 1 {number} - point -"),
                (("unit", 1, 1, number, POINT, None), f"unit 1 1 {number} point -"),
            ]:
                self.assertEqual(show_rule(rule), text)
                self.assertTrue(same(read_rule(text), rule), text)

    def test_what_is_handed_in_stays(self):
        before = copy.deepcopy(WRITTEN)
        for rule, text in WRITTEN:
            show_rule(rule)
            read_rule(text)
        self.assertTrue(all(same(one, other) for one, other in zip(WRITTEN, before)))


class Refused(WordsCase):
    def test_where_a_rule_begins(self):
        for word in NO_RULE_WORDS:
            self.refused(word, 0)
            self.refused(word + " 1 1 - point -", 0)
            self.refused("unit 1 1 - " + word + " -", 4)
            self.refused("unit 1 1 1 " + word + " point", 4)
            self.refused("unit 1 1 1 unit 1 1 - " + word + " - -", 8)
            if word != "-":
                self.refused("unit 1 1 1 point " + word, 5)
                self.refused("unit 1 1 1 unit 2 2 2 point " + word + " -", 9)
                self.refused("unit 1 1 1 " + ONE + " " + word, 10)

    def test_to_and_lead(self):
        for word in NO_NUMBER_WORDS:
            for at in [1, 2, 5, 6, 11, 12]:
                self.refused_with(PAIR.split(" "), at, word)

    def test_cap(self):
        for word in NO_NUMBER_WORDS:
            if word != "-":
                for at in [3, 7, 13]:
                    self.refused_with(PAIR.split(" "), at, word)

    def test_cap_below_to(self):
        self.refused("unit 2 1 1 point -", 3)
        self.refused("unit 99 1 98 point -", 3)
        self.refused("unit 10 1 9 point point", 3)
        self.refused("unit 5 1 7 unit 6 1 5 point - point", 7)
        self.refused("unit 5 1 7 point unit 8 1 7 point -", 8)

    def test_cap_goes_by_its_own_unit(self):
        self.assertEqual(read_rule("unit 9 1 9 unit 2 1 2 point - -")[4][3], 2)
        self.assertEqual(read_rule("unit 2 9 2 point -")[3], 2)

    def test_last_where_there_is_no_cap(self):
        for word in ["point", "unit", "", "1", "x", "--"]:
            self.refused("unit 1 1 - point " + word, 5)
            self.refused("unit 1 1 1 unit 1 1 - point " + word + " -", 9)
            self.refused("unit 1 1 1 point unit 1 1 - point " + word, 10)
        self.refused("unit 1 1 - point " + ONE, 5)

    def test_too_many_words(self):
        for text in BASES:
            count = len(text.split(" "))
            for more in ["", "-", "point", "unit", "1", ONE]:
                self.refused(text + " " + more, count)

    def test_lacking_words(self):
        for text in BASES:
            words = text.split(" ")
            for count in range(1, len(words)):
                self.refused(" ".join(words[:count]), count)

    def test_units_too_deep(self):
        self.assertIs(is_rule(read_rule(FOUR_DEEP)), True)
        self.assertIs(is_rule(read_rule(FOUR_DEEP_BY_LAST)), True)
        self.refused(FOUR_DEEP.replace("point", ONE), 16)
        self.refused("unit 1 1 - " * 5 + "point - - - - -", 16)
        self.refused("unit 1 1 - " * 100, 16)
        self.refused(FOUR_DEEP_BY_LAST[:-len("point")] + ONE, 20)
        self.refused(FOUR_DEEP_BY_LAST[:-len("point point")] + ONE + " -", 19)

    def test_the_eleventh_unit(self):
        self.assertIs(is_rule(read_rule(TEN)), True)
        words = TEN.split(" ")
        spots = [at for at, word in enumerate(words) if word == "unit"]
        self.assertEqual(len(spots), 10)
        eleven = "unit 1 1 1 " + SEVEN + " unit 1 1 1 " + ONE + " " + ONE
        self.refused(eleven, spots[9] + 6)
        fifteen = ("unit 1 1 1 " + SEVEN + " " + SEVEN).split(" ")
        spots = [at for at, word in enumerate(fifteen) if word == "unit"]
        self.refused(" ".join(fifteen), spots[10])

    def test_blanks(self):
        self.refused("", 0)
        self.refused(" ", 0)
        self.refused("  ", 0)
        self.refused(" point", 0)
        self.refused("point ", 1)
        self.refused("point  ", 1)
        self.refused("unit  1 1 - point -", 1)
        self.refused("unit 1  1 - point -", 2)
        self.refused("unit 1 1  - point -", 3)
        self.refused("unit 1 1 -  point -", 4)
        self.refused("unit 1 1 - point  -", 5)
        self.refused("unit 1 1 - point - ", 6)
        self.refused("unit 1 1 - point ", 5)
        self.refused("unit ", 1)
        self.refused("point\n", 0)
        self.refused("point\tpoint", 0)

    def test_the_first_wrong_word_counts(self):
        self.refused("unit 0 0 0 x x x", 1)
        self.refused("unit 1 100 - x", 2)
        self.refused("x", 0)
        self.refused("unit 1 1 - point point point", 5)


class Swept(WordsCase):
    def test_each_word_changed(self):
        changes = ["", "-", "point", "unit", "0", "1", "2", "9", "01", "99", "100", "x"]
        for text in BASES:
            words = text.split(" ")
            for at in range(len(words)):
                for word in changes:
                    self.agrees(" ".join(words[:at] + [word] + words[at + 1:]))
                    self.agrees(" ".join(words[:at] + [word] + words[at:]))
                self.agrees(" ".join(words[:at] + words[at + 1:]))

    def test_all_short_rows_of_words(self):
        rows = ["point", "unit"]
        for _ in range(6):
            rows = [row + " " + word for row in rows for word in ["-", "point", "unit", "1", "2"]]
            for row in rows:
                self.agrees(row)
            rows = [row for row in rows if first_wrong_word(row) == len(row.split(" "))]

    def agrees(self, text):
        at = first_wrong_word(text)
        if at is None:
            rule = read_rule(text)
            self.assertIs(is_rule(rule), True, text)
            self.assertEqual(show_rule(rule), text)
        else:
            self.refused(text, at)


if __name__ == "__main__":
    unittest.main()
