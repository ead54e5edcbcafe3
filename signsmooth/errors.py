"""The refusals: one base, and every other one straight under it."""


class SmoothError(ValueError):
    pass


class NoFraction(SmoothError):
    pass


class NoTable(SmoothError):
    pass


class NoChoice(SmoothError):
    pass


class NoSquare(SmoothError):
    pass


class NoFit(SmoothError):
    pass


class NoUndoing(SmoothError):
    pass


class NoLadder(SmoothError):
    pass


class TooMany(SmoothError):
    pass


class NoPaper(SmoothError):
    pass


class NoRow(SmoothError):
    pass


class NoStairs(SmoothError):
    pass


class NoNumber(SmoothError):
    pass


class NoCorner(SmoothError):
    pass


class NoName(SmoothError):
    pass


class NoStep(SmoothError):
    pass


class NoWeight(SmoothError):
    pass


class NoDeed(SmoothError):
    pass


class NoText(SmoothError):
    pass


class NoWord(SmoothError):
    pass
