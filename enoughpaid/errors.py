"""The errors of the package, each with its fields as attributes."""


class PaidError(ValueError):
    """What all errors of the package have in common."""


class BadArrow(PaidError):
    """An arrow does not have the form of one, or is one too many."""

    def __init__(self, line):
        self.line = line


class BadState(PaidError):
    """A start or an end is not a name."""

    def __init__(self, state):
        self.state = state


class TooMany(PaidError):
    """A machine would have too many states."""

    def __init__(self, count):
        self.count = count


class BadText(PaidError):
    """A line of a text is not as the text of a machine has it."""

    def __init__(self, line):
        self.line = line


class BadRow(PaidError):
    """An object is not a row, or is too long."""

    def __init__(self, row):
        self.row = row


class UnknownState(PaidError):
    """An object is not one of the states."""

    def __init__(self, state):
        self.state = state


class UnknownArrow(PaidError):
    """An object does not tell an arrow of the machine."""

    def __init__(self, arrow):
        self.arrow = arrow


class BadNumber(PaidError):
    """An object is not an integer within the limits."""

    def __init__(self, number):
        self.number = number


class BadExpression(PaidError):
    """An object is not an expression."""

    def __init__(self, place):
        self.place = place


class NotSettled(PaidError):
    """A tally that has to be repeated is not settled."""

    def __init__(self, part):
        self.part = part


class BadTally(PaidError):
    """Objects do not make a tally, or not one of the same states."""

    def __init__(self):
        pass


class Unbounded(PaidError):
    """A machine that has to be bounded is not."""

    def __init__(self):
        pass
