"""All errors that Ownrail raises by itself."""


class RailError(ValueError):
    """The base of what is refused because of its form, its place or its length."""


class NoEngine(RailError):
    """A thing is no engine; word says why."""

    def __init__(self, word):
        self.word = word


class NoYard(RailError):
    """A thing is no yard; word says why, number which engine."""

    def __init__(self, word, number):
        self.word = word
        self.number = number


class NoText(RailError):
    """A text can't be read; at is the number of its word or row."""

    def __init__(self, at):
        self.at = at


class OwnWay(RailError):
    """The engine of this number is not free by itself."""

    def __init__(self, number):
        self.number = number


class TooMany(RailError):
    """More than most beats have meetings."""

    def __init__(self, most):
        self.most = most


class TooLong(RailError):
    """A round, or how often it is gone, is more than most."""

    def __init__(self, most):
        self.most = most


class Full(RailError):
    """More than most beats would have been gone."""

    def __init__(self, most):
        self.most = most


class NoColour(RailError):
    """A thing is no colour."""

    def __init__(self, colour):
        self.colour = colour


class Broken(RailError):
    """One of several deeds is refused; at is its number."""

    def __init__(self, at):
        self.at = at


class NoRow(RailError):
    """A row is none that a desk knows."""


class NoNumber(IndexError):
    """No engine has this number."""

    def __init__(self, number):
        self.number = number


class NoRail(IndexError):
    """The engine of this number has no rail at this place."""

    def __init__(self, number, place):
        self.number = number
        self.place = place


class NoStood(LookupError):
    """A ground has no k-th yard to tell."""

    def __init__(self, k):
        self.k = k
