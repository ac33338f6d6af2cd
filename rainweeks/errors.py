"""The errors of the package: each keeps what it was created with."""


class RainError(ValueError):
    """The base class of all errors of this package."""


class InvalidWeek(RainError):
    """An argument of a week is wrong: word is its name."""

    def __init__(self, word):
        self.word = word


class InvalidRule(RainError):
    """An argument of a rule is wrong: word is its name."""

    def __init__(self, word):
        self.word = word


class InvalidMeasure(RainError):
    """An argument of a measure is wrong: word is its name."""

    def __init__(self, word):
        self.word = word


class InvalidText(RainError):
    """A text is not of its form: at is the number of the first wrong line."""

    def __init__(self, at):
        self.at = at


class InvalidRain(RainError):
    """What should be rain is none: at is the number of the first wrong thing."""

    def __init__(self, at):
        self.at = at


class InvalidSeen(RainError):
    """What should have been seen cannot be: at is the number of the first wrong thing."""

    def __init__(self, at):
        self.at = at


class InvalidCommand(RainError):
    """A desk does not know the command, or cannot do it now."""

    def __init__(self):
        pass


class Refused(RainError):
    """Several days were refused as a whole: at is the index of the first wrong one."""

    def __init__(self, at):
        self.at = at
