"""Rules of rallies written as words, and read again."""

from tally.errors import BadWord
from tally.rules import MOST, MOST_DEPTH, MOST_UNITS, POINT
from tally.wholes import writes_whole


def show_rule(rule):
    return " ".join(words_of(rule))


def read_rule(text):
    reader = RuleReader(text.split(" "))
    rule = reader.read_part(MOST_DEPTH)
    reader.refuse_more()
    return rule


def words_of(rule):
    if rule == POINT:
        return ["point"]
    words = ["unit", str(rule[1]), str(rule[2])]
    words.append("-" if rule[3] is None else str(rule[3]))
    words.extend(words_of(rule[4]))
    words.extend(["-"] if rule[5] is None else words_of(rule[5]))
    return words


# Goes over the words once, from left to right, and refuses the first one that
# is not as told; so spot is always the number that a refusal has to name.
class RuleReader:
    def __init__(self, words):
        self.words = words
        self.spot = 0
        self.unit_count = 0

    def refuse_more(self):
        if self.spot < len(self.words):
            raise BadWord(self.spot)

    def word_here(self):
        if self.spot == len(self.words):
            raise BadWord(self.spot)
        return self.words[self.spot]

    # Room is how many units may still lie within one another from here on.
    def read_part(self, room):
        word = self.word_here()
        if word == "point":
            self.spot += 1
            return POINT
        if word != "unit" or room == 0 or self.unit_count == MOST_UNITS:
            raise BadWord(self.spot)
        self.spot += 1
        self.unit_count += 1
        return self.read_unit(room - 1)

    def read_unit(self, room):
        to = self.read_number(1)
        lead = self.read_number(1)
        cap = self.read_cap(to)
        inner = self.read_part(room)
        last = self.read_last(cap, room)
        return ("unit", to, lead, cap, inner, last)

    def read_number(self, least):
        word = self.word_here()
        if not writes_whole(word, least, MOST):
            raise BadWord(self.spot)
        self.spot += 1
        return int(word)

    def read_cap(self, to):
        if self.word_here() == "-":
            self.spot += 1
            return None
        return self.read_number(to)

    def read_last(self, cap, room):
        if self.word_here() == "-":
            self.spot += 1
            return None
        if cap is None:
            raise BadWord(self.spot)
        return self.read_part(room)
