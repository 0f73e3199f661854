"""Mends: the fewest cells that are to be nought so that a cell, or a determinant, has a unit.

A lot of cells is told by their indexes among those that may be taken, or by its MASK, the integer
that has the bits with these indexes; masks of ways, or placings, likewise. What is tried teaches:
two unlike ways without the cells of a lot are there without those of any other one, too, that has
none of their cells; so of the many lots only few are tried.
"""

from unitgrids.cells import Cells
from unitgrids.determinants import unlike_placings
from unitgrids.errors import NoNumber
from unitgrids.exact import is_index
from unitgrids.grids import Grid
from unitgrids.papers import Shortest
from unitgrids.placings import check_square, live
from unitgrids.scripts import bases_of, bottom_of, check_cell
from unitgrids.verdicts import needed_cells

MOST_CELLS = 3


class Bags(Shortest):
    """For each cell masks of the cells of a shortest way, and of one of another unit; without struck cells."""

    def __init__(self, bases, scale, bits, struck):
        Shortest.__init__(self, bases, scale, 0)
        self.bits = bits
        self.struck = struck

    def put_in(self, number, i, j, unit):
        if (number, i, j) in self.struck:
            return self.nought
        return super().put_in(number, i, j, unit)

    def told_cell(self, number, i, j):
        return self.bits.get((number, i, j), 0)

    def joined(self, one, other):
        return one | other


def _mask_of(lot):
    """The mask of a lot of indexes."""
    mask = 0
    for index in lot:
        mask = mask | (1 << index)
    return mask


class Mending:
    """A search; the classes below this one tell what ways are left without the cells of a lot."""

    def __init__(self, cells):
        self.cells = cells
        # Each right lot has a cell of each clash, not all cells of any cut, and none of some way.
        self.clashes = []
        self.cuts = []
        self.known = []

    def ways_left(self, struck):
        """Masks of two ways of unlike units without these cells; of one if all are alike; of none."""
        return []

    def ways_without(self, lot):
        left = self.ways_left({self.cells[index]: True for index in lot})
        self.known.extend(left)
        return left

    def least_lot(self, most):
        """The least of the smallest right lots of at most so many cells, None if there is none."""
        if len(self.ways_without(())) == 0:
            return None
        for size in range(most + 1):
            lot = self.least_beyond((), 0, size)
            if lot is not None:
                return tuple([self.cells[index] for index in lot])
        return None

    def least_beyond(self, lot, first, size):
        """The least right lot that begins so, with so many cells more from an index on."""
        if size == 0:
            return lot if self.is_right(lot) else None
        mask = _mask_of(lot)
        wanted = self.wanted_cells(mask, size)
        for index in range(first, len(self.cells)):
            if (wanted >> index) & 1 == 1:
                found = self.least_beyond(lot + (index,), index + 1, size - 1)
                if found is not None:
                    return found
                wanted = self.wanted_cells(mask, size)
        return None

    def wanted_cells(self, mask, size):
        """The mask of the cells that may come next to a lot that is to get so many more."""
        wanted = (1 << len(self.cells)) - 1
        if size == 1:
            for clash in self.clashes:
                if clash & mask == 0:
                    wanted = wanted & clash
        return wanted

    def is_right(self, lot):
        """Whether, without a lot's cells, there are ways, and all of one unit."""
        mask = _mask_of(lot)
        if any([mask & clash == 0 for clash in self.clashes]) or any([mask & cut == cut for cut in self.cuts]):
            return False
        left = self.ways_without(lot)
        if len(left) == 2:
            self.clashes.append(left[0] | left[1])
        elif len(left) == 0:
            self.cut_off(lot)
        return len(left) == 1

    def cut_off(self, lot):
        """Keep as few cells of a lot that leaves no way as leave none."""
        fewest = lot
        for index in lot:
            fewer = tuple([other for other in fewest if other != index])
            mask = _mask_of(fewer)
            if all([mask & way != 0 for way in self.known]) and len(self.ways_without(fewer)) == 0:
                fewest = fewer
        self.cuts.append(_mask_of(fewest))


class CellMending(Mending):
    """The search for cells that are put in without which a cell of a script has a unit."""

    def __init__(self, script, at, i, j, cells):
        Mending.__init__(self, cells)
        self.told_in = script
        self.target = (at, i, j)
        self.bits = {cell: 1 << index for index, cell in enumerate(cells)}

    def ways_left(self, struck):
        at, i, j = self.target
        bags = Bags(bases_of(self.told_in), bottom_of(self.told_in), self.bits, struck)
        return [mask for _, _, mask in bags.grids_to(self.told_in, at)[at][i][j]]


class GridMending(Mending):
    """The search for live cells without which a determinant has a unit."""

    def __init__(self, grid, cells):
        Mending.__init__(self, cells)
        self.grid = grid
        self.bits = {cell: 1 << index for index, cell in enumerate(cells)}

    def ways_left(self, struck):
        rows = []
        for i, row in enumerate(self.grid.rows):
            rows.append(tuple([None if (i, j) in struck else unit for j, unit in enumerate(row)]))
        masks = []
        for _, placing in unlike_placings(Grid(self.grid.bases, tuple(rows))):
            masks.append(sum([self.bits[(i, column)] for i, column in enumerate(placing)]))
        return masks


def _check_most(most):
    """Raise NoNumber for what is no integer from 0 to 3."""
    if not is_index(most, MOST_CELLS + 1):
        raise NoNumber()


def fewest_noughts(script, at, i, j, most):
    """The least of the smallest lots of cells put in without which a cell has a unit, None if there is none."""
    check_cell(script, at, i, j)
    _check_most(most)
    there = Cells().grids_to(script, at)
    if not there[at][i][j]:
        return None
    needed = needed_cells(script, there, at, i, j)
    cells = [(number, p, q) for number, p, q in needed if number < len(script.grids)]
    return CellMending(script, at, i, j, cells).least_lot(most)


def fewest_struck(grid, most):
    """The least of the smallest lots of live cells without which the determinant has a unit, None if there is none."""
    check_square(grid)
    _check_most(most)
    return GridMending(grid, live(grid)).least_lot(most)
