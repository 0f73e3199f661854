"""Grids, whose cells are noughts or units, and numbers and values for them."""

from math import lcm

from unitgrids.errors import BadGrid, NoCell, NoNumbers, NoRoots, NoUnit
from unitgrids.exact import is_above_nought, is_fraction, is_index, is_whole, times
from unitgrids.units import MOST_BASES, are_roots, exponents, factor, is_unit

MOST_ROWS = 10
MOST_TOP = 6
MOST_BOTTOM = 4


class Grid:
    """Rows of cells; a cell is None, which is nought for sure, or a unit."""

    def __init__(self, bases, rows):
        part = _wrong_part(bases, rows)
        if part is not None:
            raise BadGrid(part)
        self.bases = bases
        self.rows = rows

    def __eq__(self, other):
        return isinstance(other, Grid) and self.bases == other.bases and self.rows == other.rows


def is_cell(bases, thing):
    """Whether a thing may be a cell of a Grid with so many base units."""
    if thing is None:
        return True
    if not is_unit(bases, thing):
        return False
    return all([-MOST_TOP <= top <= MOST_TOP and below <= MOST_BOTTOM for top, below in thing])


def _has_grid_length(thing):
    """Whether a thing is a tuple of as many items as a Grid may have rows, or cells in a row."""
    return isinstance(thing, tuple) and 1 <= len(thing) <= MOST_ROWS


def _wrong_part(bases, rows):
    """The part for which a Grid can't be made, None if it can."""
    if not is_whole(bases) or not 1 <= bases <= MOST_BASES:
        return "bases"
    if not _has_grid_length(rows):
        return "rows"
    for i, row in enumerate(rows):
        if not _has_grid_length(row) or len(row) != len(rows[0]):
            return (i,)
    # A wrong row, even a later one, goes ahead of each wrong cell.
    for i, row in enumerate(rows):
        for j, thing in enumerate(row):
            if not is_cell(bases, thing):
                return (i, j)
    return None


def _check_place(grid, i, j):
    """Raise NoCell for what is no row, or no column, of a grid."""
    if not is_index(i, len(grid.rows)) or not is_index(j, len(grid.rows[0])):
        raise NoCell()


def cell(grid, i, j):
    """The cell in a row and a column: None or its unit."""
    _check_place(grid, i, j)
    return grid.rows[i][j]


def retold(grid, i, j, thing):
    """The grid with one cell told anew."""
    _check_place(grid, i, j)
    if not is_cell(grid.bases, thing):
        raise NoUnit()
    rows = [list(row) for row in grid.rows]
    rows[i][j] = thing
    return Grid(grid.bases, tuple([tuple(row) for row in rows]))


def _units(grid):
    """The units of all cells that aren't nought."""
    return [thing for row in grid.rows for thing in row if thing is not None]


def bottom(grid):
    """The least common multiple of the bottoms of all exponents, 1 if there are none."""
    multiple = 1
    for unit in _units(grid):
        for exponent in unit:
            multiple = lcm(multiple, exponent[1])
    return multiple


def scaled_rows(grid, scale, nought):
    """The rows of the units' exponents, each times a scale that fits, and of what is told for noughts."""
    return [[nought if unit is None else exponents(unit, scale) for unit in row] for row in grid.rows]


def _has_shape(grid, thing):
    """Whether a thing is a tuple of rows with as many items as the grid's."""
    if not isinstance(thing, tuple) or len(thing) != len(grid.rows):
        return False
    return all([isinstance(row, tuple) and len(row) == len(grid.rows[0]) for row in thing])


def _beside_cells(grid, numbers):
    """The pairs of each cell of a grid and what stands in its place in rows of its shape."""
    return [pair for row, line in zip(grid.rows, numbers) for pair in zip(row, line)]


def _is_number_for(unit, thing):
    """Whether a thing may stand where a grid has this unit, or None."""
    return is_fraction(thing) and (unit is not None or thing[0] == 0)


def are_numbers(grid, thing):
    """Whether a thing is rows of fractions, nought where the grid is."""
    if not _has_shape(grid, thing):
        return False
    return all([_is_number_for(unit, number) for unit, number in _beside_cells(grid, thing)])


def are_values(grid, thing):
    """Whether a thing is numbers for a grid, above 0 where the grid isn't nought."""
    if not are_numbers(grid, thing):
        return False
    pairs = _beside_cells(grid, thing)
    return all([unit is None or is_above_nought(number) for unit, number in pairs])


def _in_other_units(unit, number, roots, scale):
    """A number in other units; a nought, which has no unit, stays what it is."""
    if unit is None:
        return number
    return times(number, factor(unit, roots, scale))


def rescaled(grid, numbers, roots, scale):
    """Numbers for a grid in other units, by a scale that fits all its units."""
    rows = []
    for row, line in zip(grid.rows, numbers):
        rows.append(tuple([_in_other_units(unit, number, roots, scale) for unit, number in zip(row, line)]))
    return tuple(rows)


def renumbered(grid, numbers, roots):
    """The numbers in other units: each one times the factor of its cell's unit."""
    if not are_numbers(grid, numbers):
        raise NoNumbers()
    if not are_roots(grid.bases, roots):
        raise NoRoots()
    return rescaled(grid, numbers, roots, bottom(grid))
