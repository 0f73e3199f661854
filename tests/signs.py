"""Grids with as many rows as columns, and numbers of any sign for them, for the tests of part 3."""

from fractions import Fraction

from tests.things import as_pair, as_python
from unitgrids.grids import Grid, bottom
from unitgrids.units import factor

N, M, D, H = ((0, 1),), ((1, 1),), ((-1, 1),), ((1, 2),)
BIG = 10 ** 39 + 7
ROOTS = ((2, 1), (3, 1), (5, 7))


def told(rows):
    return tuple(tuple(row) for row in rows)


def as_pairs(rows):
    return tuple(tuple(as_pair(Fraction(number)) for number in row) for row in rows)


def as_fractions(rows):
    return [[as_python(number) for number in row] for row in rows]


def heighted_grid(chance, bases, many, fill, wrong=0, drift=0):
    """A grid whose units are heights less heights, and so much more for each step, but for some cells."""
    heights = [[Fraction(chance.randint(-1, 1), chance.choice((1, 1, 2))) for _ in range(bases)] for _ in range(many)]
    rows = [[tuple(as_pair(one - other + drift) for one, other in zip(heights[i], heights[j]))
             if chance.random() < fill else None for j in range(many)] for i in range(many)]
    for _ in range(wrong):
        rows[chance.randrange(many)][chance.randrange(many)] = ((chance.choice((3, 5)), 1),) * bases
    return Grid(bases, told(rows))


def random_numbers(chance, grid, most=50):
    """Numbers of any sign for a grid, none of them 0 but where it is nought."""
    return [[Fraction(0) if unit is None else Fraction(chance.choice((-1, 1)) * chance.randint(1, most), chance.randint(1, 5))
             for unit in row] for row in grid.rows]


def in_other_units(grid, rows, scale):
    """Rows of Fractions for a grid, in other units."""
    return [[number if unit is None else number * as_python(factor(unit, ROOTS[:grid.bases], scale))
             for unit, number in zip(row, line)] for row, line in zip(grid.rows, rows)]


def fitting_scale(grid):
    """A scale that fits the units of a grid, their means over up to four, and those of right sides."""
    return 12 * bottom(grid)


def multiply(one, other):
    return [[sum(one[i][k] * other[k][j] for k in range(len(other))) for j in range(len(other[0]))] for i in range(len(one))]


def same_rows(many):
    return [[Fraction(int(i == j)) for j in range(many)] for i in range(many)]
