"""The errors of the package."""


class TurnError(ValueError):
    """The base class of all errors of the package."""


class BadHouse(TurnError):
    """A value is no house: part is "whole", "halls" or "turns"."""

    def __init__(self, part):
        self.part = part


class BadTurn(TurnError):
    """A value is no turn of the halls."""


class BadRow(TurnError):
    """A value is no row: index is that of its first wrong item, or None."""

    def __init__(self, index):
        self.index = index


class BadNumber(TurnError):
    """A value is no number that may stand here."""


class NotWhole(TurnError):
    """A house has one hall only, or its turns do not lead each hall to each."""


class NotSingle(TurnError):
    """A turn other than the still one leaves two or more halls in place."""


class NotWithin(TurnError):
    """A house is no part of the other one."""


class Unlike(TurnError):
    """Two houses do not have equally many halls."""


class BadText(TurnError):
    """A value is no text."""


class BadLine(TurnError):
    """A text tells no house: line and word, from 1, are where it fails."""

    def __init__(self, line, word):
        self.line = line
        self.word = word


class BadStep(TurnError):
    """There is no step to take back."""


class TooMany(TurnError):
    """A group has more turns than most."""

    def __init__(self, most):
        self.most = most
