"""Books: the row of a game's deeds, taken back and put right."""

from tally.errors import Falls, NoDeed, NoGame, ScoreError
from tally.games import first, is_game, played
from tally.stakes import stakes


# Games and the deeds that are let are made of tuples, numbers and texts, which
# nobody can change: kept as they are, they are as good as copies.
class Book:
    def __init__(self, game):
        if not is_game(game):
            raise NoGame("a book is made of a game")
        self.kept_game = game
        self.row = []
        # The stand behind each number of deeds, from none on.
        self.stands = [first(game)]

    def add(self, deed):
        self.stands.append(played(self.kept_game, self.stands[-1], deed))
        self.row.append(deed)
        return len(self.row)

    def back(self):
        if self.row == []:
            raise NoDeed("there is no deed to take back")
        self.stands.pop()
        return self.row.pop()

    def put_right(self, number, deed):
        refuse_number(number, 1, len(self.row))
        self.write_anew(self.row[:number - 1] + [deed] + self.row[number:])

    def put_in(self, number, deed):
        refuse_number(number, 1, len(self.row) + 1)
        self.write_anew(self.row[:number - 1] + [deed] + self.row[number - 1:])

    def leave_out(self, number):
        refuse_number(number, 1, len(self.row))
        self.write_anew(self.row[:number - 1] + self.row[number:])

    def write_anew(self, row):
        self.stands = stands_along(self.kept_game, row)
        self.row = row

    def deeds(self):
        return list(self.row)

    def stand(self, number=None):
        if number is None:
            return self.stands[-1]
        refuse_number(number, 0, len(self.row))
        return self.stands[number]

    def units(self):
        if self.kept_game[0] != "rally":
            return []
        found = []
        for number, side in enumerate(self.row, start=1):
            won = stakes(self.kept_game[1], self.stands[number - 1][0], side)
            if won > 0:
                found.append((number, side, won))
        return found

    def game(self):
        return self.kept_game


def refuse_number(number, least, most):
    if not least <= number <= most:
        raise NoDeed("there is no deed of this number")


def stands_along(game, row):
    stands = [first(game)]
    for number, deed in enumerate(row, start=1):
        try:
            stands.append(played(game, stands[-1], deed))
        except ScoreError:
            raise Falls(number) from None
    return stands
