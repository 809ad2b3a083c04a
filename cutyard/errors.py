"""The refusals of the program."""


class YardError(ValueError):
    """Any refusal."""


class NoNumber(YardError):
    """A bottom that is none."""


class NoName(YardError):
    """A name that nothing bears."""

    def __init__(self, at):
        self.at = at


class Twice(YardError):
    """A name that came ahead."""

    def __init__(self, at):
        self.at = at


class TooGreat(YardError):
    """More things than may be."""

    def __init__(self, at):
        self.at = at


class NoText(YardError):
    """A line that is none of those told, or that stands in a wrong place."""

    def __init__(self, at):
        self.at = at


class NoRow(YardError):
    """A number that is none of a row's."""


class NoChange(YardError):
    """No change is left to take back."""


class BelowNought(YardError):
    """A number below nought where there may be none."""
