"""What the tests of places and all that goes by them draw on: small games, their stands, and plain walks."""

import copy
import random

from samples import POINT, RefusalCase, same, unit
from tally.errors import TooMany
from tally.games import deeds_at, first, place_of, played

THROWS = (("two", 2, True), ("one", 1, False), ("nil", 0, True), ("three", 3, True))
MOST_LIMIT = 3000


def after(game, deeds):
    return played_on(game, first(game), deeds)


def played_on(game, stand, deeds):
    for deed in deeds:
        stand = played(game, stand, deed)
    return stand


def walk(game, source, most):
    """The stands of a game along a row of deeds that are let, the first one first."""
    stand = first(game)
    stands = [stand]
    while stand[1] is None and len(stands) <= most:
        stand = played(game, stand, source.choice(deeds_at(game, stand)))
        stands.append(stand)
    return stands


def by_ones(begin, turn=1, sides=1):
    return ("down", (sides, begin, turn, (("one", 1, True),)))


# Rules of one to four units within one another, with and without cap and last, none with more than 3,000 places.
SMALL_RULES = [
    POINT, unit(), unit(3), unit(1, 2), unit(2, 2), unit(1, 4), unit(4, 2), unit(11, 2),
    unit(1, 1, 1), unit(2, 2, 2), unit(2, 2, 3), unit(3, 9, 5), unit(2, 2, 4, POINT, POINT),
    unit(1, 1, 1, POINT, unit(2, 2)), unit(2, 2, 2, POINT, unit(2)), unit(2, 2, 3, unit(2), unit(3, 2)),
    unit(2, 1, None, unit(2, 2)),
    unit(1, 2, None, unit(1, 2)), unit(2, 2, None, unit(2, 2, 3)), unit(2, 2, 3, unit(2, 2), None),
    unit(2, 1, None, unit(2, 1, None, unit(2))), unit(1, 2, None, unit(1, 2, None, unit(1, 2))),
    unit(2, 1, 2, unit(2, 2, 3, unit(1, 2), unit(2, 2)), unit(3)), unit(2, 1, None, unit(1, 2, None, unit(2, 2, 2))),
    unit(1, 2, None, unit(1, 2, None, unit(1, 2, None, unit(1, 2)))),
    unit(2, 2, 2, unit(1, 2, 2, unit(1, 2, 2, unit(2, 1, 2))), unit(1, 1, 1, unit(2), unit(1, 2))),
    unit(2, 1, None, unit(2, 1, None, unit(2, 1, None, unit(2)))),
]
NEVER_ENDING = [
    ("down", (1, 5, 1, (("nil", 0, True),))), ("down", (2, 3, 2, (("nil", 0, False),))),
    ("down", (1, 4, 3, (("one", 1, False),))), ("down", (2, 3, 2, (("two", 2, True),))),
    ("down", (2, 2, 1, (("two", 2, False), ("one", 1, False)))), ("down", (3, 1, 1, (("six", 6, True),))),
]
SMALL_DOWNS = [
    ("down", (sides, begin, turn, THROWS))
    for sides, begin, turn in ((1, 1, 1), (1, 7, 3), (1, 30, 2), (2, 1, 1), (2, 4, 1), (2, 3, 2), (2, 5, 3), (3, 2, 1))
] + [
    ("down", (2, 5, 3, (("one", 1, True), ("six", 6, True)))), ("down", (2, 4, 2, (("all", 4, True),))),
    ("down", (1, 9, 3, (("two", 2, True), ("three", 3, False)))),
    ("down", (3, 4, 1, (("two", 2, True), ("nil", 0, True)))),
    ("down", (2, 4, 2, (("two", 2, True), ("one", 1, False)))), by_ones(20, 3), by_ones(5, 2, 3),
] + NEVER_ENDING
SMALL_LANES = [
    ("lane", lane)
    for lane in ((1, 1, 1), (1, 1, 3), (1, 2, 2), (1, 3, 2), (1, 20, 1), (2, 1, 1), (2, 2, 1), (2, 1, 2), (3, 1, 1))
]
SMALL_GAMES = [("rally", rule) for rule in SMALL_RULES] + SMALL_DOWNS + SMALL_LANES


def some_stands():
    """The first stand of each small game, and stands some deeds on, those that are over among them."""
    source = random.Random(71)
    found = []
    for game in SMALL_GAMES:
        found.append((game, first(game)))
        stands = walk(game, source, 40)
        for stand in dict.fromkeys([stands[len(stands) // 2], stands[-1], source.choice(stands)]):
            if stand != first(game):
                found.append((game, stand))
    return found


STANDS = some_stands()


def places_behind(game, place):
    return [place_of(game, played(game, place, deed)) for deed in deeds_at(game, place)]


def plain_walk(game, stand):
    """All places met from a stand, as a set."""
    places = set()
    ahead = {place_of(game, stand)}
    while ahead:
        places |= ahead
        ahead = {behind for place in ahead for behind in places_behind(game, place)} - places
    return places


# An end lies one deed ahead, and yet there are more places than any limit.
FAR = ("down", (1, 5000, 1, (("all", 5000, True), ("one", 1, True))))


class PlacesCase(RefusalCase):
    """ask is one of the functions that walk over places: ask(game, stand), or ask(game, stand, limit)."""

    def keeps_to_its_limit(self, ask):
        self.goes_by_the_limit(ask)
        self.goes_by_a_thousand_where_it_is_left_out(ask)
        self.goes_by_three_thousand_at_most(ask)

    def goes_by_the_limit(self, ask):
        for game, stand in STANDS:
            number = len(plain_walk(game, stand))
            for limit in (number, number + 1, MOST_LIMIT, MOST_LIMIT + 1):
                ask(game, stand, limit)
            for limit in {number - 1, number // 2, 1} - {0, number}:
                self.refused(TooMany, ask, game, stand, limit)

    def goes_by_a_thousand_where_it_is_left_out(self, ask):
        ask(by_ones(999), first(by_ones(999)))
        self.refused(TooMany, ask, by_ones(1000), first(by_ones(1000)))
        ask(by_ones(1000), first(by_ones(1000)), 1001)
        ask(by_ones(1000), after(by_ones(1000), ["one"]))
        race = ("rally", unit(33))
        self.refused(TooMany, ask, race, first(race))
        ask(race, first(race), 2000)
        ask(race, after(race, [0, 1] * 10))

    def goes_by_three_thousand_at_most(self, ask):
        ask(by_ones(2999), first(by_ones(2999)), MOST_LIMIT)
        self.refused(TooMany, ask, by_ones(2999), first(by_ones(2999)), MOST_LIMIT - 1)
        self.refused(TooMany, ask, by_ones(3000), first(by_ones(3000)), MOST_LIMIT)
        for limit in ([], [1], [2], [MOST_LIMIT]):
            self.refused(TooMany, ask, FAR, first(FAR), *limit)
        ask(FAR, after(FAR, ["all"]), 1)

    def leaves_what_is_handed_in(self, ask):
        for game, stand in STANDS:
            before = copy.deepcopy((game, stand))
            ask(game, stand)
            self.assertTrue(same((game, stand), before))
