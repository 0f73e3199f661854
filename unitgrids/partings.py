"""Partings: three numbers that no one factor leads to one another, for what has no unit."""

from unitgrids.errors import NoParting
from unitgrids.exact import is_index, is_pair, is_whole, times
from unitgrids.reckoning import ENDLESS, Outcomes, changed
from unitgrids.scripts import bases_of, check_cell
from unitgrids.verdicts import papers_of

ROOTS = (1, 2, 4)


def _alike_values(script, small):
    """Values that are all 1 by an integer."""
    values = []
    for grid in script.grids:
        rows = [tuple([(0, 1) if unit is None else (1, small) for unit in row]) for row in grid.rows]
        values.append(tuple(rows))
    return tuple(values)


def _numbers_of(script, at, i, j, base, small):
    """The outcomes of a cell with the three roots of a base unit, None if one is endless."""
    values = _alike_values(script, small)
    numbers = []
    for root in ROOTS:
        roots = tuple([(root, 1) if place == base else (1, 1) for place in range(bases_of(script))])
        number = Outcomes(changed(script, values, roots)).grids_to(script, at)[at][i][j]
        if number == ENDLESS:
            return None
        numbers.append(number)
    return tuple(numbers)


def _is_parted(numbers):
    """Whether three numbers are there, and the outer ones' product is more than the middle one's square."""
    if numbers is None:
        return False
    outer = times(numbers[0], numbers[2])
    middle = times(numbers[1], numbers[1])
    return outer[0] * middle[1] > middle[0] * outer[1]


def is_parting(script, at, i, j, thing):
    """Whether a thing is a parting for a cell."""
    check_cell(script, at, i, j)
    if not is_pair(thing) or not is_index(thing[0], bases_of(script)):
        return False
    if not is_whole(thing[1]) or thing[1] < 1:
        return False
    return _is_parted(_numbers_of(script, at, i, j, thing[0], thing[1]))


def parting(script, at, i, j):
    """A parting for a cell, None if there is none."""
    check_cell(script, at, i, j)
    papers = papers_of(script, at, i, j)
    if len(papers) < 2:
        return None
    one, other = papers[0][1], papers[1][1]
    base = [place for place in range(len(one)) if one[place] != other[place]][0]
    # Two ways differ in this base unit; with small enough numbers no outcome is endless.
    small = 1
    while not _is_parted(_numbers_of(script, at, i, j, base, small)):
        small = max(2, small * small)
    return (base, small)


def three_numbers(script, at, i, j, parting):
    """The outcomes of a cell with the root 1, 2, 4 of a parting's base unit."""
    if not is_parting(script, at, i, j, parting):
        raise NoParting()
    return _numbers_of(script, at, i, j, parting[0], parting[1])
