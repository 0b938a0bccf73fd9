"""The refusals of the program, one class for each."""


class MainsError(ValueError):
    """Any refusal of the program."""


class NoFraction(MainsError):
    """There is no fraction with the bottom 0."""


class NoPuts(MainsError):
    """Puts are no list of one fraction for each place."""


class NoBalance(MainsError):
    """Puts don't sum up to 0."""


class NoLine(MainsError):
    """There is no line of that number."""


class NoLoss(MainsError):
    """The line can't be lost."""


class NoPaper(MainsError):
    """It is no paper of the house; the value `at` is the number of the part that is not as told."""

    def __init__(self, at):
        self.at = at


class NoMaking(MainsError):
    """No making fits; the value `hour` is the number of the first such hour."""

    def __init__(self, hour):
        self.hour = hour


class NoText(MainsError):
    """No house is so written."""


class NoHouse(MainsError):
    """What is written makes no house."""


class NoRow(MainsError):
    """No desk is told such a row."""


class NoNumber(MainsError):
    """There is nothing of that number, or a size or worth is beyond its bounds."""


class NoDeed(MainsError):
    """There is no deed to take back."""
