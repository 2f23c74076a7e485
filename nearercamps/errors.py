"""The errors that the package raises."""


class NoPlace(LookupError):
    """There is nothing at this place."""

    def __init__(self, place):
        self.place = place


class NothingDone(LookupError):
    """There is no deed to be undone."""

    def __init__(self):
        pass


class BadLine(ValueError):
    """This line, counted from 1, can't be read."""

    def __init__(self, line):
        self.line = line


class CanNot(ValueError):
    """What is asked for is not there, or can't be done."""

    def __init__(self):
        pass


class TooMuch(ValueError):
    """There would be more than is counted out."""

    def __init__(self):
        pass


class Unfit(ValueError):
    """What was passed in does not fit."""

    def __init__(self):
        pass
