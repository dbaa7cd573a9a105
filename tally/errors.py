"""The refusals: each has a class of its own, and all stand under ScoreError."""


class ScoreError(ValueError):
    pass


class NoThrow(ScoreError):
    pass


class NoPins(ScoreError):
    pass


class NoSide(ScoreError):
    pass


class Over(ScoreError):
    pass


class NoGame(ScoreError):
    pass


class NoDeed(ScoreError):
    pass


class TooMany(ScoreError):
    pass


class NoLine(ScoreError):
    pass


class BadWord(ScoreError):
    def __init__(self, at):
        self.at = at


class Falls(ScoreError):
    def __init__(self, at):
        self.at = at
