import copy
import random
import unittest

from samples import (
    GREAT, POINT, RULES, TENNIS_SET, THINGS, RefusalCase, rows_for, same, unit, wins_by_the_last,
)
from tally.books import Book
from tally.errors import Falls, NoDeed, NoGame, NoPins, NoSide, NoThrow, Over, ScoreError
from tally.games import deeds_at, first, is_game, played
from walks import SMALL_GAMES, THROWS, after

MATCH = ("rally", unit(2, 1, None, TENNIS_SET))
SHORT = ("rally", unit(2, 2))
DOWN = ("down", (2, 7, 3, THROWS))
LANE = ("lane", (2, 10, 2))
GAMES = [MATCH, SHORT, DOWN, LANE, ("rally", POINT), ("down", (1, 7, 2, THROWS)), ("lane", (1, 3, 2))]
# Things that no kind of game lets be a deed.
STRANGERS = [-1, 21, 99, True, False, None, "", "zwei", "0", (), (0,), [], [0, [1]], GREAT]
NO_NUMBERS_OF_DEEDS = [-1, -2, -400, 9999, GREAT, -GREAT]


def book_of(game, deeds):
    book = Book(game)
    for deed in deeds:
        book.add(deed)
    return book


def some_row(game, source, most):
    """A row of deeds that are let from the first stand on."""
    stand, row = first(game), []
    while stand[1] is None and len(row) < most:
        row.append(source.choice(deeds_at(game, stand)))
        stand = played(game, stand, row[-1])
    return row


def first_refused(game, row):
    """The number of the first deed of a row that is refused, None where all are let."""
    for number in range(1, len(row) + 1):
        try:
            after(game, row[:number])
        except ScoreError:
            return number
    return None


def plain_units(game, row):
    if game[0] != "rally":
        return []
    counts = [wins_by_the_last(game[1], row[:number]) for number in range(1, len(row) + 1)]
    return [(number, side, won) for number, (side, won) in enumerate(zip(row, counts), 1) if won > 0]


class BookCase(RefusalCase):
    def holds(self, book, game, row):
        """The book is one of the game with that row of deeds, and nothing else."""
        self.assertTrue(same(book.game(), game))
        self.assertTrue(same(book.deeds(), row), (book.deeds(), row))
        self.assertTrue(same(book.stand(), after(game, row)))
        self.assertTrue(same(book.stand(None), after(game, row)))
        for number in range(len(row) + 1):
            self.assertTrue(same(book.stand(number), after(game, row[:number])))
        self.assertTrue(same(book.units(), plain_units(game, row)), (book.units(), plain_units(game, row)))

    def falls(self, at, ask, *handed):
        self.assertTrue(same(self.refused(Falls, ask, *handed).at, at), handed)


class Made(BookCase):
    def test_of_a_game(self):
        for game in GAMES + SMALL_GAMES:
            before = copy.deepcopy(game)
            self.holds(Book(game), game, [])
            self.assertTrue(same(game, before))

    def test_no_game(self):
        wrong = THINGS + [
            MATCH[1], DOWN[1], LANE[1], list(MATCH), ("rally", list(MATCH[1])), ("rally", DOWN[1]),
            ("lane", (0, 10, 2)), ("down", (2, 7, 3, list(THROWS))), ("down", (2, 7, 3, ())), ("Lane", (2, 10, 2)),
            ("lane", [2, 10, 2]), ("lane", (True, 10, 2)), MATCH + (None,), ("rally", unit(0)), [], None, "lane 2 10 2",
        ]
        for thing in wrong:
            self.assertFalse(is_game(thing))
            self.refused(NoGame, Book, thing)


class Added(BookCase):
    def test_told_is_its_number(self):
        source = random.Random(83)
        for game in GAMES:
            book, row = Book(game), some_row(game, source, 60)
            for number, deed in enumerate(row, 1):
                self.assertTrue(same(book.add(deed), number))
            self.holds(book, game, row)

    def test_refused_as_the_game_refuses(self):
        refusals = {"rally": NoSide, "down": NoThrow, "lane": NoPins}
        for game in GAMES:
            book = Book(game)
            for deed in STRANGERS:
                self.refused(refusals[game[0]], book.add, deed)
            self.refused(refusals[game[0]], book.add, 0 if game[0] == "down" else "two")
            self.holds(book, game, [])
        book = book_of(LANE, [7])
        self.refused(NoPins, book.add, 4)
        self.holds(book, LANE, [7])

    def test_over(self):
        source = random.Random(89)
        for game in GAMES:
            row = some_row(game, source, 400)
            book = book_of(game, row)
            self.assertIsNotNone(book.stand()[1])
            for deed in [0, 1, "two"] + STRANGERS:
                self.refused(Over, book.add, deed)
            self.holds(book, game, row)

    def test_four_hundred(self):
        game = ("rally", unit(99, 99))
        row = [number % 2 for number in range(400)]
        book = book_of(game, row)
        self.assertEqual(book.deeds(), row)
        self.assertEqual(book.stand(), after(game, row))
        book.put_right(1, 1)
        self.assertEqual(book.stand(), after(game, [1] + row[1:]))
        self.assertEqual(book.back(), 1)
        self.assertEqual(len(book.deeds()), 399)


class Back(BookCase):
    def test_the_last_one_first(self):
        source = random.Random(97)
        for game in GAMES:
            row = some_row(game, source, 30)
            book = book_of(game, row)
            while row:
                self.assertTrue(same(book.back(), row.pop()))
                self.holds(book, game, row)
            self.refused(NoDeed, book.back)
            self.holds(book, game, [])

    def test_none(self):
        for game in GAMES:
            book = Book(game)
            self.refused(NoDeed, book.back)
            self.refused(NoDeed, book.back)
            self.holds(book, game, [])

    def test_behind_an_end_it_goes_on(self):
        book = book_of(SHORT, [0, 0])
        self.refused(Over, book.add, 1)
        self.assertEqual(book.back(), 0)
        self.assertEqual(book.add(1), 2)
        self.holds(book, SHORT, [0, 1])


def with_right(row, number, deed):
    return row[:number - 1] + [deed] + row[number:]


def with_in(row, number, deed):
    return row[:number - 1] + [deed] + row[number - 1:]


def without(row, number):
    return row[:number - 1] + row[number:]


class Corrected(BookCase):
    def asked(self, game, row, wanted, name, *handed):
        """Asks a book of the row for a correction that makes it the wanted one, or would.

        Tells the number of the deed at which it falls, None where it does not.
        """
        book = book_of(game, row)
        at = first_refused(game, wanted)
        if at is None:
            self.assertIsNone(getattr(book, name)(*handed))
            self.holds(book, game, wanted)
        else:
            self.falls(at, getattr(book, name), *handed)
            self.holds(book, game, row)
        return at

    def right(self, game, row, number, deed):
        return self.asked(game, row, with_right(row, number, deed), "put_right", number, deed)

    def put_in(self, game, row, number, deed):
        return self.asked(game, row, with_in(row, number, deed), "put_in", number, deed)

    def left_out(self, game, row, number):
        return self.asked(game, row, without(row, number), "leave_out", number)

    def test_each_number_there_is(self):
        source = random.Random(101)
        answers = set()
        for game in GAMES:
            strangers = [0, 1, 3, "two", "one"] + STRANGERS
            for most in (1, 5, 9):
                row = some_row(game, source, most)
                for number in range(1, len(row) + 2):
                    for deed in source.sample(strangers, 6) + deeds_at(game, first(game))[:3]:
                        answers.add(self.put_in(game, row, number, deed))
                        if number <= len(row):
                            answers.add(self.right(game, row, number, deed))
                for number in range(1, len(row) + 1):
                    answers.add(self.left_out(game, row, number))
        self.assertLessEqual({None, 1, 2, 3, 4, 5}, answers)

    def test_put_right(self):
        self.assertIsNone(self.right(SHORT, [0, 1, 0, 0], 4, 1))
        self.assertIsNone(self.right(SHORT, [0, 1, 0, 0], 4, 0))
        self.assertEqual(self.right(SHORT, [0, 1, 0, 0], 2, 0), 3)
        self.assertEqual(self.right(SHORT, [0, 1, 0, 0], 2, "0"), 2)
        self.assertIsNone(self.right(LANE, [3, 4, 10], 1, 6))
        self.assertEqual(self.right(LANE, [3, 4, 10], 1, 7), 2)
        self.assertIsNone(self.right(LANE, [3, 4, 6], 1, 10))
        self.assertEqual(self.right(LANE, [3, 4, 10], 1, 10), 3)
        self.assertIsNone(self.right(DOWN, ["two", "three", "two"], 3, "nil"))
        self.assertEqual(self.right(DOWN, ["two", "three", "two"], 2, "four"), 2)

    def test_put_in(self):
        self.assertIsNone(self.put_in(SHORT, [], 1, 1))
        self.assertIsNone(self.put_in(SHORT, [0], 2, 1))
        self.assertIsNone(self.put_in(SHORT, [0, 1], 3, 1))
        self.assertIsNone(self.put_in(SHORT, [0, 0], 1, 1))
        self.assertEqual(self.put_in(SHORT, [0, 1], 1, 0), 3)
        self.assertEqual(self.put_in(SHORT, [0, 0], 3, 0), 3)
        self.assertIsNone(self.put_in(LANE, [3, 7], 1, 7))
        self.assertEqual(self.put_in(LANE, [3, 7, 4, 6], 1, 5), 4)
        self.assertEqual(self.put_in(LANE, [9, 1], 1, 5), 2)

    def test_leave_out(self):
        self.assertIsNone(self.left_out(SHORT, [0], 1))
        self.assertIsNone(self.left_out(SHORT, [0, 1, 1, 1], 4))
        self.assertEqual(self.left_out(SHORT, [0, 1, 1, 1], 1), 3)
        self.assertIsNone(self.left_out(LANE, [3, 0, 5, 5], 1))
        self.assertEqual(self.left_out(LANE, [3, 4, 4, 6, 5, 5], 2), 4)

    def test_no_deed(self):
        source = random.Random(103)
        for game in GAMES:
            deed = deeds_at(game, first(game))[0]
            for most in (0, 1, 4):
                row = some_row(game, source, most)
                book = book_of(game, row)
                for number in [0, len(row) + 1, len(row) + 2] + NO_NUMBERS_OF_DEEDS:
                    self.refused(NoDeed, book.leave_out, number)
                    self.refused(NoDeed, book.put_right, number, deed)
                    if number != len(row) + 1:
                        self.refused(NoDeed, book.put_in, number, deed)
                self.holds(book, game, row)

    def test_no_deed_ahead_of_falls(self):
        for game, row in ((SHORT, [0, 0]), (LANE, [3]), (DOWN, ["two"])):
            book = book_of(game, row)
            for deed in STRANGERS:
                for number in [0, len(row) + 2] + NO_NUMBERS_OF_DEEDS:
                    self.refused(NoDeed, book.put_right, number, deed)
                    self.refused(NoDeed, book.put_in, number, deed)
                self.refused(NoDeed, book.put_right, len(row) + 1, deed)
                self.falls(1, book.put_right, 1, deed)
                self.falls(1, book.put_in, 1, deed)
                self.falls(len(row) + 1, book.put_in, len(row) + 1, deed)
            self.holds(book, game, row)

    def test_the_first_deed_that_is_refused_may_lie_far_behind(self):
        game = ("rally", unit(2, 1, None, unit(4, 2)))
        row = [0] * 4 + [1, 0] * 20 + [0, 0]
        self.assertEqual(len(row), 46)
        self.assertIsNone(self.right(game, row, 46, 1))
        self.assertIsNone(self.put_in(game, row, 46, 1))
        self.assertEqual(self.right(game, row, 5, 0), 11)
        self.assertEqual(self.left_out(game, row, 5), 45)
        self.assertEqual(self.put_in(game, row, 5, 0), 47)

class Stands(BookCase):
    def test_no_deed(self):
        source = random.Random(107)
        for game in GAMES:
            for most in (0, 1, 7):
                row = some_row(game, source, most)
                book = book_of(game, row)
                for number in [-len(row) - 1, len(row) + 1, len(row) + 2] + NO_NUMBERS_OF_DEEDS:
                    self.refused(NoDeed, book.stand, number)
                self.holds(book, game, row)

    def test_what_was_told_stays(self):
        book = book_of(SHORT, [0, 1])
        told = book.stand()
        book.add(1)
        book.leave_out(1)
        self.assertTrue(same(told, after(SHORT, [0, 1])))


class Units(BookCase):
    def test_told_examples(self):
        game = ("rally", unit(2, 1, None, unit(2)))
        book = book_of(game, [0, 1, 0, 1, 1, 1, 1])
        self.assertTrue(same(book.units(), [(3, 0, 1), (5, 1, 1), (7, 1, 2)]))
        self.assertEqual(Book(game).units(), [])
        self.assertEqual(book_of(("rally", POINT), [1]).units(), [])
        self.assertTrue(same(book_of(("rally", unit()), [1]).units(), [(1, 1, 1)]))

    def test_behind_corrections(self):
        game = ("rally", unit(2, 1, None, unit(2)))
        book = book_of(game, [0, 0, 1, 1])
        self.assertTrue(same(book.units(), [(2, 0, 1), (4, 1, 1)]))
        book.put_right(2, 1)
        self.assertTrue(same(book.units(), [(3, 1, 1)]))
        book.put_in(3, 0)
        self.assertTrue(same(book.units(), [(3, 0, 1), (5, 1, 1)]))
        book.leave_out(1)
        self.assertTrue(same(book.units(), [(3, 1, 1)]))
        book.back()
        self.assertTrue(same(book.units(), [(3, 1, 1)]))
        book.back()
        self.assertTrue(same(book.units(), []))

    def test_rules_of_all_kinds(self):
        source = random.Random(109)
        for rule in RULES:
            for row in rows_for(source, 60)[:4]:
                book, game = Book(("rally", rule)), ("rally", rule)
                for side in row:
                    if book.stand()[1] is None:
                        book.add(side)
                self.assertTrue(same(book.units(), plain_units(game, book.deeds())))

    def test_none_of_other_games(self):
        source = random.Random(113)
        for game in GAMES:
            if game[0] != "rally":
                self.assertTrue(same(book_of(game, some_row(game, source, 50)).units(), []))


class Kept(BookCase):
    def test_what_is_told_is_the_askers_own(self):
        game = ("rally", unit(2, 1, None, unit(2)))
        for game, row in ((game, [0, 0, 1]), (DOWN, ["two", "one"]), (LANE, [3, 4])):
            book = book_of(game, row)
            for told in (book.deeds(), book.units()):
                told.append("more")
                told.reverse()
            self.holds(book, game, row)
            book.deeds().clear()
            book.units().clear()
            self.holds(book, game, row)
            told = (book.deeds(), book.units(), book.stand(), book.game())
            before = copy.deepcopy(told)
            book.back()
            book.leave_out(1)
            self.assertTrue(same(told, before))

    def test_two_books_beside_one_another(self):
        one, other = Book(SHORT), Book(SHORT)
        one.add(0)
        self.holds(other, SHORT, [])
        other.add(1)
        other.add(0)
        one.put_right(1, 1)
        self.holds(one, SHORT, [1])
        self.holds(other, SHORT, [1, 0])
        other.leave_out(1)
        one.back()
        self.holds(one, SHORT, [])
        self.holds(other, SHORT, [0])

    def test_a_books_stand_is_that_of_its_row_played_anew(self):
        source = random.Random(127)
        for game in GAMES + SMALL_GAMES[::3]:
            book, row = Book(game), []
            for _ in range(40):
                row = self.turned(book, game, row, source)
                self.holds(book, game, row)

    def turned(self, book, game, row, source):
        """Asks the book for something; tells the row that it must have then."""
        number = source.randint(0, len(row) + 1)
        deed = source.choice(deeds_at(game, first(game)) + [0, 1, "two", "seven"])
        ask, handed, wanted = source.choice([
            (book.add, (deed,), row + [deed]), (book.add, (deed,), row + [deed]), (book.back, (), row[:-1]),
            (book.put_right, (number, deed), with_right(row, number, deed) if 1 <= number <= len(row) else None),
            (book.put_in, (number, deed), with_in(row, number, deed) if number >= 1 else None),
            (book.leave_out, (number,), without(row, number) if 1 <= number <= len(row) else None),
        ])
        if wanted is None or (ask == book.back and row == []):
            self.refused(NoDeed, ask, *handed)
            return row
        if first_refused(game, wanted) is None:
            ask(*handed)
            return wanted
        if ask == book.add:
            self.assertRaises((Over, NoSide, NoThrow, NoPins), ask, *handed)
        else:
            self.falls(first_refused(game, wanted), ask, *handed)
        return row


if __name__ == "__main__":
    unittest.main()
