"""Inverses and solutions, and which of their cells have a unit, by walks from row to row."""

from math import lcm

from unitgrids.determinants import check_square_numbers
from unitgrids.errors import NoCell, NoPlacing, NoRight
from unitgrids.exact import as_wholes, is_fraction, is_index, lowest
from unitgrids.grids import bottom, is_cell, scaled_rows
from unitgrids.papers import EMPTY_PATH, Papers
from unitgrids.placings import check_square, is_placing, least_placing
from unitgrids.units import exponents, together, without
from unitgrids.verdicts import NOUGHT, Verdicts, told_verdict, told_verdicts

TRIPLE = 3


def _solved(numbers, sides):
    """For rows of numbers and a row of right sides beside each: the rows that solve all, None unless just these."""
    rows = [as_wholes(row + side)[0] for row, side in zip(numbers, sides)]
    many = len(rows)
    before = 1
    for k in range(many):
        pivots = [i for i in range(k, many) if rows[i][k] != 0]
        if len(pivots) == 0:
            return None
        rows[k], rows[pivots[0]] = rows[pivots[0]], rows[k]
        rows = [row if i == k else _cleared(row, rows[k], k, before) for i, row in enumerate(rows)]
        before = rows[k][k]
    # All pivots are alike now.
    sign = 1 if before > 0 else -1
    return tuple([tuple([lowest(sign * number, sign * before) for number in row[many:]]) for row in rows])


def _cleared(row, pivot, k, before):
    """A row of integers without its item at an index, by a pivot's row and the pivot before."""
    # Each such difference can be divided by the pivot before without a rest.
    return [(pivot[k] * number - row[k] * other) // before for number, other in zip(row, pivot)]


def inverse(numbers):
    """The tuple of rows of the inverse, None if there is none."""
    check_square_numbers(numbers)
    places = range(len(numbers))
    return _solved(numbers, [tuple([(1, 1) if i == j else (0, 1) for j in places]) for i in places])


def solution(numbers, right):
    """The tuple of the numbers that solve the equations, None unless there are just these."""
    check_square_numbers(numbers)
    if not isinstance(right, tuple) or len(right) != len(numbers) or not all([is_fraction(side) for side in right]):
        raise NoRight()
    rows = _solved(numbers, [(side,) for side in right])
    return None if rows is None else tuple([row[0] for row in rows])


def _some_placing(grid):
    """A placing, NoPlacing if there is none."""
    placing = least_placing(grid)
    if placing is None:
        raise NoPlacing()
    return placing


def _leg_weights(grid, placing, scale):
    """The rows of what a walk from each row straight to each other one weighs, None where it can't go."""
    rows = scaled_rows(grid, scale, None)
    found = []
    for p, row in enumerate(rows):
        found.append([None if q == p or row[column] is None else without(row[column], rows[q][column])
                      for q, column in enumerate(placing)])
    return found


def _walk_verdicts(grid, placing, scale):
    """The rows of verdicts on what all walks from a row to another one weigh."""
    algebra = Verdicts(grid.bases, scale)
    legs = _leg_weights(grid, placing, scale)
    rows = algebra.stars([[NOUGHT if weight is None else weight for weight in row] for row in legs])
    # Stars have no walks of one row.
    return [[algebra.sum_of(found, algebra.unitless) if p == q else found for q, found in enumerate(row)]
            for p, row in enumerate(rows)]


def _scaled_inverse(grid, placing, scale):
    """The rows of verdicts on the inverse's cells, units scaled."""
    walks = _walk_verdicts(grid, placing, scale)
    rows = []
    for column in range(len(placing)):
        start = placing.index(column)
        first = exponents(grid.rows[start][column], scale)
        rows.append([found if found is None or found == NOUGHT else without(found, first) for found in walks[start]])
    return rows


def inverse_verdicts(grid):
    """The tuple of rows of verdicts on the inverse's cells."""
    check_square(grid)
    scale = bottom(grid)
    return told_verdicts(_scaled_inverse(grid, _some_placing(grid), scale), scale)


def _is_right_side(grid, thing):
    """Whether a thing is a tuple with a cell for each row of a grid."""
    if not isinstance(thing, tuple) or len(thing) != len(grid.rows):
        return False
    return all([is_cell(grid.bases, side) for side in thing])


def solution_verdicts(grid, right):
    """The tuple of verdicts on the unknowns of the equations with a right side."""
    check_square(grid)
    if not _is_right_side(grid, right):
        raise NoRight()
    placing = _some_placing(grid)
    scale = bottom(grid)
    for side in right:
        if side is not None:
            for exponent in side:
                scale = lcm(scale, exponent[1])
    algebra = Verdicts(grid.bases, scale)
    sides = [NOUGHT if side is None else exponents(side, scale) for side in right]
    return tuple([told_verdict(algebra.inner(row, sides), scale) for row in _scaled_inverse(grid, placing, scale)])


def _check_walked(grid, i, j):
    """Raise NotSquare, NoPlacing, or NoCell for what is no column, or no row."""
    check_square(grid)
    _some_placing(grid)
    if not is_index(i, len(grid.rows)) or not is_index(j, len(grid.rows)):
        raise NoCell()


def inverse_walks(grid, i, j):
    """A placing and two walks of unlike weights for a cell of the inverse, None if there are none."""
    _check_walked(grid, i, j)
    scale = bottom(grid)
    placing = least_placing(grid)
    start = placing.index(i)
    algebra = Papers(grid.bases, scale)
    legs = _leg_weights(grid, placing, scale)
    papers = algebra.stars([[[] if weight is None else [(1, weight, ())] for weight in row] for row in legs])[start][j]
    if start == j:
        papers = algebra.sum_of([(0, algebra.unitless, EMPTY_PATH)], papers)
    if len(papers) < 2:
        return None
    walks = [(start,) if len(places) == 0 else places for _, _, (places, _) in papers]
    return (placing, walks[0], walks[1])


def _walk_weight(grid, placing, start, end, thing):
    """What a thing weighs as a walk by a placing between two rows, scaled; None if it is none."""
    if not isinstance(thing, tuple) or len(thing) == 0 or not all([is_index(p, len(grid.rows)) for p in thing]):
        return None
    if thing[0] != start or thing[-1] != end:
        return None
    legs = _leg_weights(grid, placing, bottom(grid))
    weight = (0,) * grid.bases
    for p, q in zip(thing, thing[1:]):
        if legs[p][q] is None:
            return None
        weight = together(weight, legs[p][q])
    return weight


def is_inverse_walks(grid, i, j, thing):
    """Whether a thing is a placing and two walks of unlike weights for a cell of the inverse."""
    _check_walked(grid, i, j)
    if not isinstance(thing, tuple) or len(thing) != TRIPLE or not is_placing(grid, thing[0]):
        return False
    start = thing[0].index(i)
    weights = [_walk_weight(grid, thing[0], start, j, walk) for walk in thing[1:]]
    return None not in weights and weights[0] != weights[1]
