"""The errors of this package."""


class LeverError(ValueError):
    """The base class of all of them but NoLever."""


class BadTree(LeverError):
    """No tree: 0 if it has not the form, 1 if the order or the levers are wrong."""

    def __init__(self, at):
        self.at = at


class BadTable(LeverError):
    """No table: -1 if the length is wrong, else the index of the first wrong lamp."""

    def __init__(self, at):
        self.at = at


class BadSetting(LeverError):
    """No setting: -1 if the length is wrong, else the index of the first wrong item."""

    def __init__(self, at):
        self.at = at


class BadList(LeverError):
    """No list: -1 if the length is wrong, else the index of the first wrong item."""

    def __init__(self, at):
        self.at = at


class BadLot(LeverError):
    """No lot: -1 if the length is wrong, else the index of the first wrong item."""

    def __init__(self, at):
        self.at = at


class BadText(LeverError):
    """No text of the form: where the first wrong word begins."""

    def __init__(self, at):
        self.at = at


class BadGrammar(LeverError):
    """No grammar: -1 if the length is wrong, else the first wrong name."""

    def __init__(self, at):
        self.at = at


class BadNet(LeverError):
    """No net: -1 if the numbers are wrong, else the index of the first wrong tap."""

    def __init__(self, at):
        self.at = at


class Refused(LeverError):
    """A value that does not fit what it was passed for."""

    def __init__(self, at):
        self.at = at


class PaperFault(LeverError):
    """A paper that does not hold: where it fails."""

    def __init__(self, at):
        self.at = at


class TooGreat(LeverError):
    """There is more than this number allows."""

    def __init__(self, most):
        self.most = most


class NoLever(KeyError):
    """A value that is no lever of the box."""

    def __init__(self, lever):
        self.lever = lever
