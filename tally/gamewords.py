"""Games written as words, and read again."""

from tally.downs import DOWN_MOSTS, MOST_THROWS, MOST_WORTH, is_name
from tally.errors import BadWord
from tally.lanes import LANE_MOSTS
from tally.rulewords import read_rule, show_rule
from tally.wholes import writes_whole


def show_game(game):
    kind = game[0]
    rule = game[1]
    if kind == "rally":
        return "rally " + show_rule(rule)
    words = [kind] + [str(number) for number in rule[:3]]
    if kind == "down":
        words.extend([word_of(throw) for throw in rule[3]])
    return " ".join(words)


def read_game(text):
    words = text.split(" ")
    if words[0] == "rally":
        return ("rally", read_behind_rally(words[1:]))
    if words[0] == "down":
        return ("down", read_down(words))
    if words[0] == "lane":
        return ("lane", read_lane(words))
    raise BadWord(0)


def word_of(throw):
    name = throw[0]
    worth = throw[1]
    return f"{name}:{worth}!" if throw[2] else f"{name}:{worth}"


def read_behind_rally(words):
    # Where no word is left, the text without signs is refused at 0, just as a lacking word.
    try:
        return read_rule(" ".join(words))
    except BadWord as refusal:
        raise BadWord(refusal.at + 1) from None


def read_down(words):
    numbers = read_numbers(words, DOWN_MOSTS)
    throws = []
    names = {}
    for at in range(len(numbers) + 1, len(words)):
        throw = read_throw(words[at])
        if throw is None or throw[0] in names or len(throws) == MOST_THROWS:
            raise BadWord(at)
        throws.append(throw)
        names[throw[0]] = True
    if throws == []:
        raise BadWord(len(words))
    return numbers + (tuple(throws),)


def read_lane(words):
    numbers = read_numbers(words, LANE_MOSTS)
    if len(words) > len(numbers) + 1:
        raise BadWord(len(numbers) + 1)
    return numbers


def read_numbers(words, mosts):
    numbers = []
    for at, most in enumerate(mosts, start=1):
        if at == len(words) or not writes_whole(words[at], 1, most):
            raise BadWord(at)
        numbers.append(int(words[at]))
    return tuple(numbers)


# None stands for a word that writes no throw.
def read_throw(word):
    ends = word.endswith("!")
    plain = word[:-1] if ends else word
    parts = plain.split(":")
    if len(parts) != 2 or not is_name(parts[0]) or not writes_whole(parts[1], 0, MOST_WORTH):
        return None
    return (parts[0], int(parts[1]), ends)
