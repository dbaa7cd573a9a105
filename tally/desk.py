"""The desk: a book that is led by lines of words."""

from tally.books import Book
from tally.ends import soonest
from tally.errors import NoGame, NoLine, NoSide
from tally.games import place_of, shown
from tally.gamewords import read_game
from tally.lasting import lasting
from tally.likes import alike
from tally.rulewords import read_rule
from tally.stakes import stakes
from tally.wholes import writes_whole
from tally.wins import can_win

MOST_NUMBER = 9999
MOST_DEED = 99
# What must stand behind the first word of a line.
FORMS = {
    "game": ("words",),
    "add": ("deed",),
    "back": (),
    "put": ("number", "deed"),
    "insert": ("number", "deed"),
    "drop": ("number",),
    "show": (),
    "deeds": (),
    "win": ("number",),
    "soonest": (),
    "last": (),
    "stakes": ("number",),
    "like": ("words",),
}


def is_line(words):
    if words[0] not in FORMS:
        return False
    form = FORMS[words[0]]
    if form == ("words",):
        return len(words) > 1
    if len(words) != len(form) + 1:
        return False
    return all([kind == "deed" or writes_whole(word, 0, MOST_NUMBER) for kind, word in zip(form, words[1:])])


# Whatever the kind of the game is: a number names no throw, and another word is
# neither a side nor a number of pins, so it is refused where it is played.
def deed_of(word):
    return int(word) if writes_whole(word, 0, MOST_DEED) else word


# An answer is told of a book and the words behind the first one.
def add_line(book, words):
    return str(book.add(deed_of(words[0])))


def back_line(book, words):
    return str(book.back())


def put_line(book, words):
    book.put_right(int(words[0]), deed_of(words[1]))
    return "ok"


def insert_line(book, words):
    book.put_in(int(words[0]), deed_of(words[1]))
    return "ok"


def drop_line(book, words):
    book.leave_out(int(words[0]))
    return "ok"


def show_line(book, words):
    return shown(book.game(), book.stand())


def deeds_line(book, words):
    deeds = book.deeds()
    return " ".join([str(deed) for deed in deeds]) if deeds != [] else "-"


def win_line(book, words):
    told = can_win(book.game(), book.stand(), int(words[0]))
    return "yes" if told[0] == "row" else "no"


def soonest_line(book, words):
    numbers = soonest(book.game(), book.stand())
    number = numbers[place_of(book.game(), book.stand())]
    return "never" if number is None else str(number)


def last_line(book, words):
    told = lasting(book.game(), book.stand())
    if told[0] == "for ever":
        return "for ever"
    most = told[1][place_of(book.game(), book.stand())]
    return f"most {most}"


def stakes_line(book, words):
    rule = rally_rule(book)
    stand = book.stand()
    if stand[1] is not None:
        raise NoLine("the rally is over")
    side = int(words[0])
    if side > 1:
        raise NoSide("a rally has the sides 0 and 1")
    return str(stakes(rule, stand[0], side))


def like_line(book, words):
    return alike(rally_rule(book), read_rule(" ".join(words)))[0]


def rally_rule(book):
    if book.game()[0] != "rally":
        raise NoLine("this is asked of rallies alone")
    return book.game()[1]


ANSWERS = {
    "add": add_line,
    "back": back_line,
    "put": put_line,
    "insert": insert_line,
    "drop": drop_line,
    "show": show_line,
    "deeds": deeds_line,
    "win": win_line,
    "soonest": soonest_line,
    "last": last_line,
    "stakes": stakes_line,
    "like": like_line,
}


class Desk:
    def __init__(self):
        self.book = None

    def say(self, line):
        words = line.split(" ")
        if not is_line(words):
            raise NoLine("this is no line of the desk")
        if words[0] == "game":
            self.book = Book(read_game(" ".join(words[1:])))
            return "ok"
        if self.book is None:
            raise NoGame("no game was told")
        answer = ANSWERS[words[0]]
        return answer(self.book, words[1:])
