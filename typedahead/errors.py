"""The errors with which the program refuses, each with what it tells."""


def place_of(place):
    """A place as it is told: a list may have been handed in for the tuple."""
    return tuple(place) if isinstance(place, list) else place


class BadHouse(ValueError):
    """The thing is no house."""

    def __init__(self, thing):
        self.thing = thing


class BadName(ValueError):
    """What should be a NAME is none."""

    def __init__(self, name):
        self.name = name


class BadLine(ValueError):
    """The line of that number isn't written as it must be, or can't stand there."""

    def __init__(self, line):
        self.line = line


class NoEdit(ValueError):
    """The thing is no edit of that text."""

    def __init__(self, thing):
        self.thing = thing


class TooLong(ValueError):
    """What would come of it is no text."""


class Clash(ValueError):
    """The name at the place would stand for something else."""

    def __init__(self, place):
        self.place = place_of(place)


class NoName(LookupError):
    """At the place begins nothing of what is asked for."""

    def __init__(self, place):
        self.place = place_of(place)


class NoFile(LookupError):
    """There is no such file, or it can't be that one."""

    def __init__(self, file):
        self.file = file


class NoPiece(LookupError):
    """That row of the file makes no piece."""

    def __init__(self, file, row):
        self.file = file
        self.row = row


class NoMend(IndexError):
    """The fault has no mend of that number."""

    def __init__(self, number):
        self.number = number


class NoMake(IndexError):
    """There is no make of that number."""

    def __init__(self, number):
        self.number = number


class NoSpot(IndexError):
    """That is no place of the text."""

    def __init__(self, at):
        self.at = at


class NoMark(IndexError):
    """There is no mark of that number."""

    def __init__(self, number):
        self.number = number


class NoAsk(IndexError):
    """No ask of that number waits."""

    def __init__(self, number):
        self.number = number


class Tangled(RuntimeError):
    """What should be carried over the one of that number can't be."""

    def __init__(self, number):
        self.number = number


class NoDeed(RuntimeError):
    """There is no deed to be taken back or done again."""
