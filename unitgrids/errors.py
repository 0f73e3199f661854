"""All errors of the package.

Each class keeps just the fields that it is made with, as they were passed; the classes without
an __init__ of their own have no fields. There are no texts beside: a field may be of any kind,
and not each object can be told by a string.
"""


class GridError(ValueError):
    """The base of all errors of the package."""

    def __init__(self):
        ValueError.__init__(self)


class NoUnit(GridError):
    """What was passed is no unit, or no cell of a Grid."""


class OtherBases(GridError):
    """Two things have other numbers of base units."""


class NoFraction(GridError):
    """What was passed is no fraction."""


class NoRoots(GridError):
    """What was passed is no tuple of fractions above 0, one for each base unit."""


class NoScale(GridError):
    """What was passed is no integer from 1 on, or leaves some exponent no integer."""


class BadGrid(GridError):
    """A Grid can't be made: the part is "bases", "rows", (row,) or (row, column)."""

    def __init__(self, part):
        self.part = part


class NoCell(GridError):
    """What was passed is no row, or no column."""


class NoNumbers(GridError):
    """What was passed are no numbers for a grid."""


class BadScript(GridError):
    """A Script can't be made: the part is "grids", "steps" or the index of a step."""

    def __init__(self, part):
        self.part = part


class NoGrid(GridError):
    """What was passed is no number of a grid of a script."""


class NoOrder(GridError):
    """What was passed is no order of the grids that are put in."""


class NoValues(GridError):
    """What was passed are no values."""


class NoWay(GridError):
    """What was passed is no way to a cell."""


class NoNumber(GridError):
    """What was passed is no integer of the range that is let."""


class TooMany(GridError):
    """There are more things than most."""

    def __init__(self, most):
        self.most = most


class TooLong(GridError):
    """A thing is longer than most."""

    def __init__(self, most):
        self.most = most


class NoParting(GridError):
    """What was passed is no parting."""


class NotSquare(GridError):
    """A grid has not as many rows as columns."""


class NoSquare(GridError):
    """What was passed is no tuple of rows of fractions, as many as there are rows."""


class NoPlacing(GridError):
    """A grid has no placing."""


class NoRight(GridError):
    """What was passed is no right side."""


class BadLine(GridError):
    """A line is wrong: the place is the number of tokens ahead of the wrong one."""

    def __init__(self, place):
        self.place = place


class NoAnswer(GridError):
    """A name has no answer, or one that is a fault."""


class NoText(GridError):
    """What was passed is no string."""


class NothingDone(GridError):
    """There is nothing to take back, or to do again."""


class NoLine(GridError):
    """What was passed is no string, or a line that can't be done now."""


class Unknown(GridError):
    """A name is not defined."""

    def __init__(self, name):
        self.name = name
