"""The refusals, a class for each.

Each stands straight under MeasureError, so that taking one by its name never takes another.
"""


class MeasureError(ValueError):
    """Any refusal."""


class BadNumber(MeasureError):
    """What is no number as it is asked for."""


class BadName(MeasureError):
    """What is no name."""


class BadUnit(MeasureError):
    """What is no unit, or no text of one."""


class BadRate(MeasureError):
    """What are no rates, or rates that lack one."""


class BadTable(MeasureError):
    """What a table of units can't hold or can't tell."""


class NoRow(MeasureError):
    """A row that isn't there."""


class BadText(MeasureError):
    """What writes no program; at is the place in the text, or None."""

    def __init__(self, at):
        self.at = at


class NoName(MeasureError):
    """A name that stands for nothing of the kind asked for; row is None where no row has it."""

    def __init__(self, row, name):
        self.row = row
        self.name = name


class Twice(MeasureError):
    """A name that is told already; row is None where no row has it."""

    def __init__(self, row, name):
        self.row = row
        self.name = name


class BadCount(MeasureError):
    """A call with another count of arguments than the function has params."""

    def __init__(self, row, name):
        self.row = row
        self.name = name


class Steep(MeasureError):
    """A row whose kind has too great an exponent."""

    def __init__(self, row):
        self.row = row


class Clash(MeasureError):
    """A row whose sums no exponents fulfil; parts and modulus show why."""

    def __init__(self, row, parts, modulus):
        self.row = row
        self.parts = parts
        self.modulus = modulus


class Unlike(MeasureError):
    """Two units that had to be one."""

    def __init__(self, one, other):
        self.one = one
        self.other = other


class Halted(MeasureError):
    """The end of a run ahead of its time; met within runs alone."""

    def __init__(self, word):
        self.word = word
