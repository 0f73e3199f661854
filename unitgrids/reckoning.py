"""Scripts reckoned out: exact fractions, or endless."""

from unitgrids.cells import Cells
from unitgrids.errors import NoRoots, NoValues
from unitgrids.exact import lowest, plus, sum_of_products, times
from unitgrids.grids import are_values, rescaled
from unitgrids.scripts import bases_of, bottom_of, check_grid
from unitgrids.units import are_roots

ENDLESS = "endless"


class Outcomes(Cells):
    """The outcome of each cell; it is 0 just where no way leads to, values being above 0."""

    def __init__(self, numbers):
        self.nought = (0, 1)
        self.numbers = numbers

    def put_in(self, number, i, j, unit):
        return self.numbers[number][i][j]

    def sum_of(self, one, other):
        if one == ENDLESS or other == ENDLESS:
            return ENDLESS
        return plus(one, other)

    def product_of(self, one, other):
        if one == ENDLESS or other == ENDLESS:
            return ENDLESS
        return times(one, other)

    def inner(self, row, column):
        pairs = [pair for pair in zip(row, column) if pair[0] != self.nought and pair[1] != self.nought]
        if any([ENDLESS in pair for pair in pairs]):
            return ENDLESS
        return sum_of_products(pairs)

    def powers_of(self, one):
        if one == ENDLESS or one[0] >= one[1]:
            return ENDLESS
        return lowest(one[1], one[1] - one[0])


def are_all_values(script, thing):
    """Whether a thing is a tuple with values for each grid that is put in."""
    if not isinstance(thing, tuple) or len(thing) != len(script.grids):
        return False
    return all([are_values(grid, part) for grid, part in zip(script.grids, thing)])


def outcome(script, values, at):
    """The tuple of rows of outcomes of a grid."""
    if not are_all_values(script, values):
        raise NoValues()
    check_grid(script, at)
    return tuple([tuple(row) for row in Outcomes(values).grids_to(script, at)[at]])


def changed(script, values, roots):
    """The values in other units."""
    if not are_all_values(script, values):
        raise NoValues()
    if not are_roots(bases_of(script), roots):
        raise NoRoots()
    scale = bottom_of(script)
    return tuple([rescaled(grid, part, roots, scale) for grid, part in zip(script.grids, values)])
