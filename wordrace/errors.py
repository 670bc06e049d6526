"""The refusals: one class for each, all of them under RaceError."""


class RaceError(ValueError):
    pass


class NoDie(RaceError):
    pass


class NoWord(RaceError):
    pass


class NoRace(RaceError):
    pass


class NoRow(RaceError):
    pass


class Over(RaceError):
    pass


class TooMany(RaceError):
    pass


class NoNote(RaceError):
    pass
