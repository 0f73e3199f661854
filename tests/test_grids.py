"""Promises 2.1, 2.2, and 0.2 to 0.5 as far as they touch grids."""

import copy
import unittest
from fractions import Fraction
from itertools import product
from math import gcd

from tests.things import as_pair, as_python, deep_list, deep_tuple, wrong_fractions, wrong_things
from unitgrids import errors
from unitgrids.errors import BadGrid, NoCell, NoNumbers, NoRoots, NoUnit
from unitgrids.grids import Grid, are_numbers, are_values, bottom, cell, renumbered, retold
from unitgrids.units import factor

N = ((0, 1), (0, 1))
M = ((1, 1), (0, 1))
V = ((1, 1), (-1, 1))
H = ((1, 2), (-2, 3))
GRID = Grid(2, ((M, None, V), (N, H, None)))
NUMBERS = (((5, 2), (0, 1), (-1, 3)), ((0, 1), (7, 1), (0, 1)))
VALUES = (((5, 2), (0, 1), (1, 3)), ((2, 1), (7, 1), (0, 1)))
BIG = 10 ** 39 + 7


def wrong_cells():
    """What is no cell of a Grid with two base units."""
    wrong = wrong_things()[1:] + wrong_fractions()[1:]
    wrong += [(thing, (0, 1)) for thing in wrong_fractions()]
    wrong += [((0, 1), thing) for thing in wrong_fractions()]
    wrong += [((top, 1), (0, 1)) for top in (7, -7, 8, BIG, -BIG)]
    wrong += [((0, 1), (top, 1)) for top in (7, -7, 8, BIG, -BIG)]
    wrong += [((1, bottom), (0, 1)) for bottom in (5, 6, 12, BIG)]
    wrong += [((0, 1), (1, bottom)) for bottom in (5, 6, 12, BIG)]
    wrong += [((0, 1),), ((0, 1),) * 3, [(0, 1), (0, 1)], ([0, 1], [0, 1]), GRID, NoUnit(), "nought"]
    return [thing for thing in wrong if thing is not None]


class GridTest(unittest.TestCase):
    def bad(self, part, bases, rows):
        with self.assertRaises(BadGrid) as caught:
            Grid(bases, rows)
        self.assertEqual(caught.exception.part, part)
        self.assertIs(type(caught.exception.part), type(part))
        if isinstance(part, tuple):
            self.assertEqual([type(number) for number in part], [int] * len(part))

    def test_it_keeps_what_it_was_made_of(self):
        for bases in (1, 2, 3):
            rows = ((None, ((1, 2),) * bases), (((0, 1),) * bases, None))
            grid = Grid(bases, rows)
            self.assertEqual((grid.bases, grid.rows), (bases, rows))

    def test_all_sizes(self):
        for many, wide in product(range(1, 11), repeat=2):
            rows = ((None,) * wide,) * many
            self.assertEqual(Grid(1, rows).rows, rows)

    def test_all_exponents(self):
        for top, bottom_ in product(range(-6, 7), range(1, 5)):
            if gcd(top, bottom_) == 1:
                for cell_ in (((top, bottom_), (0, 1)), ((1, 2), (top, bottom_))):
                    self.assertEqual(Grid(2, ((cell_,),)).rows, ((cell_,),))
            else:
                self.bad((0, 0), 2, ((((top, bottom_), (0, 1)),),))

    def test_bases(self):
        for bases in wrong_things() + [0, 4, 5, -1, BIG, (1,), [1], "1", (1, 1)]:
            self.bad("bases", bases, ((None,),))
            self.bad("bases", bases, None)
            self.bad("bases", bases, ((None,), (5,), ()))

    def test_rows(self):
        wrong = [thing for thing in wrong_things() if not (isinstance(thing, tuple) and thing)]
        wrong += [0, 5, [(None,)], [[None]], {0: (None,)}, ((None,),) * 11, ((None,),) * 12, (5,) * 11]
        for rows in wrong:
            self.bad("rows", 1, rows)

    def test_each_row(self):
        wrong = [thing for thing in wrong_things() if not (isinstance(thing, tuple) and thing)]
        wrong += [0, 5, [None], [None, None], {0: None, 1: None}, (None,) * 11, (None,) * 12, (5,) * 11]
        for row in wrong:
            self.bad((0,), 1, (row,))
            self.bad((0,), 1, (row, row))
            self.bad((1,), 1, ((None, None), row))
            self.bad((2,), 1, ((None, None), (None, None), row, row))

    def test_rows_with_other_lengths(self):
        for first, second in product(range(1, 11), repeat=2):
            if first != second:
                self.bad((1,), 1, ((None,) * first, (None,) * second))
        self.bad((3,), 1, ((None,), (None,), (None,), (None, None), (None,), (None, None)))

    def test_each_cell(self):
        for thing in wrong_cells():
            self.bad((0, 0), 2, ((thing,),))
            self.bad((0, 1), 2, ((None, thing), (None, None)))
            self.bad((1, 0), 2, ((N, M), (thing, None)))
        self.bad((0, 0), 1, (((),),))
        self.bad((9, 9), 1, ((None,) * 10,) * 9 + ((None,) * 9 + (0,),))

    def test_cells_for_other_numbers_of_base_units(self):
        for bases, other in product((1, 2, 3), repeat=2):
            unit = ((1, 2),) * other
            if bases == other:
                self.assertEqual(Grid(bases, ((unit,),)).rows, ((unit,),))
            else:
                self.bad((0, 0), bases, ((unit,),))

    def test_a_wrong_row_goes_ahead_of_wrong_cells(self):
        self.bad((1,), 2, ((5, 5), (None,)))
        self.bad((2,), 2, ((5, None), (None, 5), [None, None]))
        self.bad((0,), 2, ((), (5,)))

    def test_wrong_cells_row_by_row(self):
        self.bad((0, 2), 2, ((None, None, 5), (5, None, None)))
        self.bad((1, 0), 2, ((None, None), (5, 5)))
        self.bad((0, 1), 2, ((None, True, False), (5, None, None)))

    def test_deep_things(self):
        for deep in (deep_tuple(None), deep_list((0, 1)), deep_tuple([])):
            self.bad("bases", deep, deep)
            self.bad((0, 0), 1, ((deep,),))
        self.bad("rows", 1, deep_list(None))
        self.bad((0, 0), 1, deep_tuple(None))
        self.bad((0,), 1, (deep_list(None),))


class EqualityTest(unittest.TestCase):
    def test_equal_if_bases_and_rows_are(self):
        self.assertTrue(GRID == Grid(2, ((M, None, V), (N, H, None))))
        self.assertFalse(GRID != Grid(2, ((M, None, V), (N, H, None))))
        for rows in (((M, None, V),), ((M, None, V), (N, N, None)), ((M, N), (None, H), (V, None))):
            self.assertFalse(GRID == Grid(2, rows))
            self.assertTrue(GRID != Grid(2, rows))

    def test_other_bases(self):
        grids = [Grid(bases, ((None,),)) for bases in (1, 2, 3)]
        for one, other in product(range(3), repeat=2):
            self.assertIs(grids[one] == grids[other], one == other)
            self.assertIs(grids[one] != grids[other], one != other)

    def test_equal_to_nothing_of_another_class(self):
        class Twin:
            bases, rows = GRID.bases, GRID.rows

        others = [GRID.rows, (2, GRID.rows), [2, GRID.rows], {"bases": 2, "rows": GRID.rows}, Twin(), 2]
        for thing in others + [thing for thing in wrong_things() if not isinstance(thing, Grid)]:
            self.assertIs(GRID == thing, False)
            self.assertIs(thing == GRID, False)
            self.assertIs(GRID != thing, True)


class CellTest(unittest.TestCase):
    def test_each_cell(self):
        for i, row in enumerate(GRID.rows):
            for j, thing in enumerate(row):
                self.assertEqual(cell(GRID, i, j), thing)

    def test_no_cell(self):
        calls = (lambda i, j: cell(GRID, i, j), lambda i, j: retold(GRID, i, j, None),
                 lambda i, j: retold(GRID, i, j, 5))
        for call in calls:
            for thing in wrong_things() + [-1, -2, BIG, -BIG, (0,), [0], "0"]:
                for i, j in ((thing, 0), (0, thing), (thing, thing), (thing, 9), (9, thing)):
                    with self.assertRaises(NoCell):
                        call(i, j)
            for i, j in product(range(-4, 6), repeat=2):
                if not (0 <= i < 2 and 0 <= j < 3):
                    with self.assertRaises(NoCell):
                        call(i, j)

    def test_one_row_and_one_column(self):
        wide, high = Grid(1, ((None, ((1, 1),)),)), Grid(1, ((None,), (((1, 1),),)))
        self.assertEqual([cell(wide, 0, 1), cell(high, 1, 0)], [((1, 1),)] * 2)
        self.assertEqual(retold(wide, 0, 1, None), Grid(1, ((None, None),)))
        self.assertEqual(retold(high, 1, 0, None), Grid(1, ((None,), (None,))))
        for grid, i, j in ((wide, 1, 0), (wide, 0, 2), (high, 0, 1), (high, 2, 0)):
            with self.assertRaises(NoCell):
                cell(grid, i, j)

    def test_retold(self):
        for i, j, thing in product(range(2), range(3), (None, N, M, H, ((-6, 1), (5, 4)))):
            before = copy.deepcopy(GRID)
            grid = retold(GRID, i, j, thing)
            self.assertIsInstance(grid, Grid)
            self.assertEqual(GRID, before)
            rows = [list(row) for row in GRID.rows]
            rows[i][j] = thing
            self.assertEqual(grid, Grid(2, tuple(tuple(row) for row in rows)))
            self.assertEqual(retold(grid, i, j, cell(GRID, i, j)), GRID)

    def test_retold_needs_a_cell(self):
        for thing in wrong_cells():
            for i, j in ((0, 0), (1, 2)):
                with self.assertRaises(NoUnit):
                    retold(GRID, i, j, thing)

    def test_no_cell_ahead_of_no_unit(self):
        for thing in wrong_cells():
            for i, j in ((2, 0), (0, 3), (True, 0), (0, False), (None, None)):
                with self.assertRaises(NoCell):
                    retold(GRID, i, j, thing)


class BottomTest(unittest.TestCase):
    def test_least_common_multiple(self):
        for bottoms in product((1, 2, 3, 4), repeat=3):
            units = tuple(((1, below), (-5, 1)) for below in bottoms)
            expected = min(k for k in range(1, 13) if all(k % below == 0 for below in bottoms))
            self.assertEqual(bottom(Grid(2, (units,))), expected)
            self.assertEqual(bottom(Grid(2, tuple((unit,) for unit in units))), expected)
            self.assertEqual(bottom(Grid(3, ((tuple((1, below) for below in bottoms),),))), expected)

    def test_noughts_and_whole_exponents(self):
        self.assertEqual(bottom(Grid(1, ((None, None),))), 1)
        self.assertEqual(bottom(Grid(2, ((None, N), (M, V)))), 1)
        self.assertEqual(bottom(Grid(1, ((None, ((0, 1),)), (((-6, 1),), ((5, 3),))))), 3)
        self.assertEqual(bottom(GRID), 6)


class NumbersTest(unittest.TestCase):
    def test_numbers_and_values(self):
        self.assertIs(are_numbers(GRID, NUMBERS), True)
        self.assertIs(are_values(GRID, NUMBERS), False)
        self.assertIs(are_numbers(GRID, VALUES), True)
        self.assertIs(are_values(GRID, VALUES), True)

    def test_each_place(self):
        fine = [(1, 1), (1, 2), (BIG, 10 ** 39), (7 ** 100, 2 ** 300)]
        below = [(0, 1), (-1, 1), (-3, 2), (-BIG, 4)]
        for i, j in product(range(2), range(3)):
            nought = GRID.rows[i][j] is None
            for number in fine + below:
                rows = self.with_number(i, j, number)
                self.assertIs(are_numbers(GRID, rows), not nought or number == (0, 1))
                self.assertIs(are_values(GRID, rows), number == (0, 1) if nought else number in fine)

    def with_number(self, i, j, number):
        rows = [list(row) for row in VALUES]
        rows[i][j] = number
        return tuple(tuple(row) for row in rows)

    def wrong_numbers(self):
        wrong = wrong_things() + wrong_fractions()
        for i, j in ((0, 0), (0, 1), (1, 1), (1, 2)):
            wrong += [self.with_number(i, j, thing) for thing in wrong_fractions()]
        for thing in wrong_things() + wrong_fractions():
            wrong += [(thing, VALUES[1]), (VALUES[0], thing), (thing, thing)]
        wrong += [VALUES[:1], VALUES + VALUES[:1], VALUES * 2, list(VALUES), dict(enumerate(VALUES))]
        wrong += [(VALUES[0], VALUES[1][:2]), (VALUES[0][:2], VALUES[1]), (VALUES[0] + ((1, 1),), VALUES[1])]
        wrong += [(list(VALUES[0]), VALUES[1]), (VALUES[0], list(VALUES[1])), tuple(zip(*VALUES)), GRID.rows]
        wrong += [(VALUES[0], VALUES[1] + ((0, 1),)), ((), ()), deep_tuple(VALUES), deep_list(VALUES), GRID]
        return wrong

    def test_wrong_things_are_none(self):
        for thing in self.wrong_numbers():
            self.assertIs(are_numbers(GRID, thing), False, thing)
            self.assertIs(are_values(GRID, thing), False, thing)

    def test_greater_numbers_than_cells(self):
        numbers = (((10 ** 90 + 1, 10 ** 90),),)
        self.assertIs(are_values(Grid(1, ((((6, 1),),),)), numbers), True)

    def test_no_numbers_ahead_of_no_roots(self):
        for thing in self.wrong_numbers():
            for roots in (((1, 1), (1, 1)), None, [], ((1, 1),)):
                with self.assertRaises(NoNumbers):
                    renumbered(GRID, thing, roots)

    def test_no_roots(self):
        wrong = wrong_things() + wrong_fractions()
        for thing in wrong_fractions() + [(0, 1), (-1, 1), (-2, 3), (-BIG, 1)]:
            wrong += [(thing, (1, 1)), ((1, 1), thing)]
        wrong += [((1, 1),), ((1, 1),) * 3, [(1, 1), (1, 1)], ([1, 1], (1, 1)), {0: (1, 1), 1: (1, 1)}, GRID]
        for roots in wrong:
            with self.assertRaises(NoRoots):
                renumbered(GRID, NUMBERS, roots)
            with self.assertRaises(NoRoots):
                renumbered(Grid(2, ((None,),)), (((0, 1),),), roots)


class RenumberedTest(unittest.TestCase):
    ROOTS = [(1, 1), (2, 1), (1, 2), (3, 4), (BIG, 10 ** 39)]

    def expected(self, grid, numbers, roots):
        rows = []
        for row, line in zip(grid.rows, numbers):
            told = []
            for unit, number in zip(row, line):
                value = as_python(number)
                for exponent, root in zip(unit or (), roots):
                    value *= as_python(root) ** int(as_python(exponent) * bottom(grid))
                told.append(as_pair(value))
            rows.append(tuple(told))
        return tuple(rows)

    def test_like_pythons_fractions(self):
        for numbers in (NUMBERS, VALUES):
            for roots in product(self.ROOTS, repeat=2):
                self.assertEqual(renumbered(GRID, numbers, roots), self.expected(GRID, numbers, roots))

    def test_the_scale_is_the_grids_not_the_cells(self):
        grid = Grid(1, ((((1, 1),), ((1, 2),), ((-1, 3),), ((0, 1),), None),))
        numbers = (((1, 1), (1, 1), (5, 1), (5, 1), (0, 1)),)
        told = (((64, 1), (8, 1), (5, 4), (5, 1), (0, 1)),)
        self.assertEqual(renumbered(grid, numbers, ((2, 1),)), told)
        self.assertEqual(renumbered(Grid(1, ((((1, 1),),),)), (((3, 1),),), ((2, 1),)), (((6, 1),),))

    def test_lowest_terms(self):
        grid = Grid(2, ((V, M), (N, None)))
        told = renumbered(grid, (((6, 5), (-1, 4)), ((0, 1), (0, 1))), ((2, 3), (4, 5)))
        self.assertEqual(told, (((1, 1), (-1, 6)), ((0, 1), (0, 1))))

    def test_three_base_units_and_a_great_grid(self):
        exponents = [(top, below) for top in range(-6, 7) for below in range(1, 5) if gcd(top, below) == 1]
        self.assertEqual(len(exponents), 33)
        units = [(exponents[k % 33], exponents[k * 7 % 33], exponents[k * 10 % 33]) for k in range(100)]
        grid = Grid(3, tuple(tuple(units[k:k + 10]) for k in range(0, 100, 10)))
        fractions = [as_pair(Fraction(k - 50, k + 1)) for k in range(100)]
        numbers = tuple(tuple(fractions[k:k + 10]) for k in range(0, 100, 10))
        roots = ((BIG, 3), (2, 10 ** 39 + 3), (1, 7))
        told = renumbered(grid, numbers, roots)
        self.assertEqual(told, self.expected(grid, numbers, roots))
        self.assertIs(are_numbers(grid, told), True)
        back = renumbered(grid, told, tuple((below, top) for top, below in roots))
        self.assertEqual(back, numbers)

    def test_each_cell_by_its_factor(self):
        roots = ((2, 3), (5, 1))
        told = renumbered(GRID, VALUES, roots)
        self.assertIs(are_values(GRID, told), True)
        for i, j in ((0, 0), (0, 2), (1, 0), (1, 1)):
            by = as_python(factor(cell(GRID, i, j), roots, bottom(GRID)))
            self.assertEqual(as_python(told[i][j]), as_python(VALUES[i][j]) * by)

    def test_numbers_that_are_nought_where_the_grid_is_not(self):
        self.assertEqual(renumbered(GRID, NUMBERS, ((2, 1), (3, 1)))[1][0], (0, 1))
        self.assertEqual(renumbered(Grid(1, ((((5, 1),),),)), (((0, 1),),), ((2, 1),)), (((0, 1),),))


class UnchangedTest(unittest.TestCase):
    def test_nothing_that_is_passed_is_changed(self):
        grid = copy.deepcopy(GRID)
        for thing in ([(0, 1)], {0: [1]}, ([0, 1], {"a": 1}), [[0, 1], [1, 2]], [VALUES[0], list(VALUES[1])]):
            kept = copy.deepcopy(thing)
            are_numbers(grid, thing)
            are_values(grid, thing)
            for call in (
                lambda: Grid(thing, thing), lambda: Grid(1, thing), lambda: Grid(1, (thing,)),
                lambda: Grid(1, ((thing,),)), lambda: cell(grid, thing, 0), lambda: retold(grid, 0, 0, thing),
                lambda: renumbered(grid, thing, thing), lambda: renumbered(grid, VALUES, thing),
            ):
                with self.assertRaises(errors.GridError):
                    call()
            self.assertEqual(thing, kept)
        self.assertEqual(grid, GRID)

    def test_equal_calls_give_equal_answers(self):
        for _ in range(2):
            self.assertEqual(bottom(GRID), 6)
            self.assertEqual(retold(GRID, 0, 1, N), Grid(2, ((M, N, V), (N, H, None))))
            self.assertEqual(renumbered(GRID, VALUES, ((1, 1), (1, 1))), VALUES)


if __name__ == "__main__":
    unittest.main()
