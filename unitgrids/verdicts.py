"""Verdicts on cells: which have a unit; and the ways by which this is shown."""

from unitgrids.cells import Cells
from unitgrids.errors import TooLong
from unitgrids.exact import is_pair
from unitgrids.papers import Papers
from unitgrids.recipes import parts
from unitgrids.scripts import bases_of, bottom_of, check_cell, check_grid
from unitgrids.units import exponents, together, unit_of
from unitgrids.ways import is_way, way_unit

NOUGHT = "nought"
MOST_LENGTH = 2000


class Verdicts(Cells):
    """The verdict on each cell, units by their scaled exponents."""

    def __init__(self, bases, scale):
        self.nought = NOUGHT
        self.scale = scale
        self.unitless = (0,) * bases

    def put_in(self, number, i, j, unit):
        return exponents(unit, self.scale)

    def sum_of(self, one, other):
        if one == NOUGHT:
            return other
        return one if other == NOUGHT or one == other else None

    def product_of(self, one, other):
        if one is None or other is None:
            return None
        return together(one, other)

    def powers_of(self, one):
        # Going around with a unit any number of times gives endlessly many units.
        return self.unitless if one == NOUGHT or one == self.unitless else None


def told_verdict(found, scale):
    """A verdict as callers are told it."""
    if found is None or found == NOUGHT:
        return found
    return unit_of(found, scale)


def told_verdicts(rows, scale):
    """The tuple of rows of verdicts as callers are told them."""
    return tuple([tuple([told_verdict(found, scale) for found in row]) for row in rows])


def _scaled_grids(script, at):
    """The rows of verdicts, units scaled, on each grid up to one; None where that one is not made of it."""
    return Verdicts(bases_of(script), bottom_of(script)).grids_to(script, at)


def verdict_grids(script, at):
    """The rows of verdicts on each grid up to one; None for those of which that one is not made."""
    scale = bottom_of(script)
    return [None if rows is None else told_verdicts(rows, scale) for rows in _scaled_grids(script, at)]


def verdict(script, at, i, j):
    """The unit that a cell has, None if it has none; "nought" for a nought."""
    check_cell(script, at, i, j)
    return told_verdict(_scaled_grids(script, at)[at][i][j], bottom_of(script))


def verdicts(script, at):
    """The tuple of rows of the verdicts on a grid's cells."""
    check_grid(script, at)
    return told_verdicts(_scaled_grids(script, at)[at], bottom_of(script))


def papers_of(script, at, i, j):
    """The papers of a cell."""
    return Papers(bases_of(script), bottom_of(script)).grids_to(script, at)[at][i][j]


def least_length(script, at, i, j):
    """The least length of a way to a cell, None for a nought."""
    check_cell(script, at, i, j)
    papers = papers_of(script, at, i, j)
    return papers[0][0] if len(papers) > 0 else None


def least_way(script, at, i, j):
    """A way of the least length to a cell, None for a nought."""
    check_cell(script, at, i, j)
    papers = papers_of(script, at, i, j)
    if len(papers) == 0:
        return None
    if papers[0][0] > MOST_LENGTH:
        raise TooLong(MOST_LENGTH)
    return papers[0][2]


def unlike_length(script, at, i, j):
    """The least length such that two ways of unlike units are no longer, None if there are no such."""
    check_cell(script, at, i, j)
    papers = papers_of(script, at, i, j)
    return papers[1][0] if len(papers) > 1 else None


def two_ways(script, at, i, j):
    """A pair of ways of unlike units, as short as can be, None if there are none."""
    check_cell(script, at, i, j)
    papers = papers_of(script, at, i, j)
    if len(papers) < 2:
        return None
    if papers[1][0] > MOST_LENGTH:
        raise TooLong(MOST_LENGTH)
    return (papers[0][2], papers[1][2])


def is_two_ways(script, at, i, j, thing):
    """Whether a thing is a pair of ways of unlike units to a cell."""
    check_cell(script, at, i, j)
    if not is_pair(thing) or not all([is_way(script, at, i, j, way) for way in thing]):
        return False
    return way_unit(script, at, i, j, thing[0]) != way_unit(script, at, i, j, thing[1])


def needed_cells(script, there, at, i, j):
    """The ascending list of the cells of which a cell that is no nought is made, itself among them."""
    found = {(at, i, j): True}
    waiting = [(at, i, j)]
    while len(waiting) > 0:
        number, row, column = waiting.pop()
        for part in parts(script, there, number, row, column):
            if part not in found:
                found[part] = True
                waiting.append(part)
    return sorted(found)


def needed(script, at, i, j):
    """The ascending list of the cells whose ways some way to a cell is made of, [] for a nought."""
    check_cell(script, at, i, j)
    there = Cells().grids_to(script, at)
    if not there[at][i][j]:
        return []
    return needed_cells(script, there, at, i, j)
