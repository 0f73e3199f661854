"""Promise 7.2: determinants, their verdicts, sides and pairs of placings."""

import copy
import random
import unittest
from fractions import Fraction
from itertools import permutations

from tests import oracle
from tests.things import as_pair, as_python, deep_list, deep_tuple, fails_with, wrong_fractions, wrong_things
from unitgrids.determinants import (determinant, determinant_verdict, is_sides, is_two_placings, sides, two_placings)
from unitgrids.errors import NoSquare, NotSquare
from unitgrids.grids import Grid, bottom, renumbered
from unitgrids.placings import live
from unitgrids.units import factor, is_unit

N, M, D, H = ((0, 1),), ((1, 1),), ((-1, 1),), ((1, 2),)
BIG = 10 ** 39 + 7


def sign_of(columns):
    turned = sum(columns[p] > columns[q] for q in range(len(columns)) for p in range(q))
    return -1 if turned % 2 else 1


def slow_determinant(rows):
    """The sum over all placings, of rows of Fractions."""
    total = Fraction(0)
    for columns in permutations(range(len(rows))):
        part = Fraction(sign_of(columns))
        for row, column in zip(rows, columns):
            part *= row[column]
        total += part
    return total


def placing_unit(grid, columns):
    """The exponents of a placing's cells together, None if one of them is nought."""
    cells = [row[column] for row, column in zip(grid.rows, columns)]
    if None in cells:
        return None
    return tuple(sum(as_python(cell[base]) for cell in cells) for base in range(grid.bases))


def slow_verdict(grid):
    found = {placing_unit(grid, columns) for columns in permutations(range(len(grid.rows)))} - {None}
    if not found:
        return "nought"
    return tuple(as_pair(exponent) for exponent in found.pop()) if len(found) == 1 else None


def sided_grid(chance, bases, many, fill, wrong=0):
    """A grid with sides, but for so many cells that may be told anew."""
    lefts = [[Fraction(chance.randint(-2, 2), chance.randint(1, 2)) for _ in range(bases)] for _ in range(many)]
    tops = [[Fraction(chance.randint(-2, 2), chance.randint(1, 2)) for _ in range(bases)] for _ in range(many)]
    rows = [[tuple(as_pair(one + other) for one, other in zip(left, top)) if chance.random() < fill else None
             for top in tops] for left in lefts]
    for _ in range(wrong):
        rows[chance.randrange(many)][chance.randrange(many)] = ((chance.choice((3, 5)), 1),) * bases
    return Grid(bases, tuple(tuple(row) for row in rows))


def as_sums(grid, pair):
    """The pairs of each live cell's exponents and those of its sides together."""
    lefts, tops = pair
    for i, j in live(grid):
        yield ([as_python(one) for one in grid.rows[i][j]],
               [as_python(one) + as_python(other) for one, other in zip(lefts[i], tops[j])])


class DeterminantTest(unittest.TestCase):
    def test_by_hand(self):
        self.assertEqual(determinant((((5, 3),),)), (5, 3))
        self.assertEqual(determinant((((0, 1),),)), (0, 1))
        self.assertEqual(determinant((((1, 1), (2, 1)), ((3, 1), (4, 1)))), (-2, 1))
        self.assertEqual(determinant((((1, 2), (1, 3)), ((1, 4), (1, 5)))), (1, 60))
        self.assertEqual(determinant((((0, 1), (1, 1)), ((1, 1), (0, 1)))), (-1, 1))
        self.assertEqual(determinant((((1, 1), (2, 1)), ((2, 1), (4, 1)))), (0, 1))
        self.assertEqual(determinant((((0, 1), (2, 1), (0, 1)), ((0, 1), (0, 1), (3, 1)), ((5, 1), (0, 1), (0, 1)))), (30, 1))

    def test_all_orders_of_rows(self):
        one = (1, 1)
        for many in range(1, 6):
            for columns in permutations(range(many)):
                rows = tuple(tuple(one if j == column else (0, 1) for j in range(many)) for column in columns)
                self.assertEqual(determinant(rows), (sign_of(columns), 1))

    def test_like_the_sum_of_all_placings(self):
        chance = random.Random(101)
        for _ in range(300):
            many = chance.choice((1, 2, 3, 3, 4, 5))
            rows = [[Fraction(chance.choice((0, 0, 1, -1, 2, -3, 7)), chance.randint(1, 4)) for _ in range(many)]
                    for _ in range(many)]
            if chance.random() < 0.3 and many > 1:
                rows[-1] = [2 * number for number in rows[0]]
            self.assertEqual(determinant(tuple(tuple(as_pair(number) for number in row) for row in rows)),
                             as_pair(slow_determinant(rows)))

    def test_ten_rows_of_great_fractions(self):
        chance = random.Random(102)
        lower = [[Fraction(chance.randint(-BIG, BIG), chance.randint(1, BIG)) if j < i else Fraction(int(i == j))
                  for j in range(10)] for i in range(10)]
        upper = [[Fraction(chance.randint(1, 99), chance.randint(1, 99)) if j >= i else Fraction(0) for j in range(10)]
                 for i in range(10)]
        rows = [[sum(lower[i][k] * upper[k][j] for k in range(10)) for j in range(10)] for i in range(10)]
        expected = Fraction(1)
        for k in range(10):
            expected *= upper[k][k]
        self.assertEqual(determinant(tuple(tuple(as_pair(number) for number in row) for row in rows)), as_pair(expected))

    def test_no_square(self):
        one = (1, 1)
        wrong = wrong_things() + [((one, one),), ((one,), (one,)), (one, one), ((one, one), (one,)), [(one,)], ([one],)]
        wrong += [((one,) * 11,) * 11, ((one,) * 10,) * 11, ((one,) * 11,) * 10, ((one, one), [one, one]), {0: (one,)}]
        wrong += [((one, one), (one, one), (one, one)), Grid(1, ((M,),)), Grid(1, ((M,),)).rows, deep_tuple(one)]
        wrong += [deep_list(one), (((one,),),), (("endless",),), ((one, one), None), (None, (one, one)), ((), ())]
        for thing in wrong_things() + wrong_fractions():
            wrong += [((thing,),), ((one, one), (one, thing)), ((thing, one), (one, one)), (thing, (one, one))]
        for numbers in wrong:
            fails_with(self, NoSquare, lambda: determinant(numbers))
        self.assertEqual(determinant(((one,) * 10,) * 10), (0, 1))

    def test_nothing_that_is_passed_is_changed(self):
        thing = ([[1, 1]], {0: [1]})
        kept = copy.deepcopy(thing)
        fails_with(self, NoSquare, lambda: determinant(thing))
        self.assertEqual(thing, kept)


class VerdictTest(unittest.TestCase):
    def check(self, grid):
        verdict = slow_verdict(grid)
        self.assertEqual(determinant_verdict(grid), verdict)
        pair = two_placings(grid)
        self.assertIs(pair is None, verdict is not None)
        if pair is not None:
            self.assertIs(is_two_placings(grid, pair), True)
            units = [placing_unit(grid, columns) for columns in pair]
            self.assertNotIn(None, units)
            self.assertNotEqual(*units)
        found = sides(grid)
        self.assertIs(found is None, verdict is None)
        if found is not None:
            self.assertIs(is_sides(grid, found), True)
            self.assertEqual([type(found), type(found[0]), type(found[1])], [tuple] * 3)
            self.assertEqual([len(side) for side in found], [len(grid.rows)] * 2)
            self.assertTrue(all(is_unit(grid.bases, unit) for side in found for unit in side))
            self.assertTrue(all(one == other for one, other in as_sums(grid, found)))
        return "None" if verdict is None else "nought" if verdict == "nought" else "unit"

    def test_the_second_fact(self):
        chance = random.Random(103)
        told = {}
        for _ in range(500):
            many = chance.choice((1, 2, 3, 4, 4, 5))
            grid = sided_grid(chance, chance.randint(1, 3), many, chance.choice((0.3, 0.5, 0.7, 1)), chance.choice((0, 0, 1, 2)))
            kind = self.check(grid)
            told[kind] = told.get(kind, 0) + 1
        for _ in range(150):
            many = chance.choice((2, 3, 4))
            kind = self.check(oracle.random_grid(chance, 2, many, many, chance.choice((0.4, 0.7)), plain=False))
            told[kind] += 1
        self.assertGreater(min(told.values()), 80)

    def test_by_hand(self):
        grid = Grid(1, ((M, N), (N, D)))
        self.assertEqual(determinant_verdict(grid), N)
        self.assertIsNone(two_placings(grid))
        grid = Grid(1, ((M, N), (N, N)))
        self.assertIsNone(determinant_verdict(grid))
        self.assertEqual(sorted(two_placings(grid)), [(0, 1), (1, 0)])
        self.assertIsNone(sides(grid))
        # A cell that is not live may have any unit.
        grid = Grid(1, ((M, H), (None, N)))
        self.assertEqual(determinant_verdict(grid), M)
        self.assertIs(is_sides(grid, ((M, N), (N, N))), True)
        self.assertIs(is_sides(grid, ((M, M), (N, D))), True)
        self.assertIs(is_sides(grid, ((H, H), (H, N))), False)
        self.assertIs(is_sides(grid, ((H, N), (H, N))), True)
        self.assertIs(is_sides(grid, ((N, M), (N, N))), False)

    def test_one_row(self):
        for unit in (N, M, H):
            grid = Grid(1, ((unit,),))
            self.assertEqual(determinant_verdict(grid), unit)
            self.assertIs(is_sides(grid, sides(grid)), True)
            self.assertIsNone(two_placings(grid))
        grid = Grid(1, ((None,),))
        self.assertEqual((determinant_verdict(grid), two_placings(grid)), ("nought", None))
        self.assertIs(is_sides(grid, sides(grid)), True)

    def test_no_live_cell(self):
        grid = Grid(2, ((((1, 1), (2, 3)), None), (((0, 1), (5, 1)), None)))
        self.assertEqual((determinant_verdict(grid), two_placings(grid)), ("nought", None))
        self.assertIs(is_sides(grid, sides(grid)), True)
        any_units = ((((7, 1), (1, 9)), ((0, 1), (0, 1))), (((-8, 1), (0, 1)), ((1, 1), (1, 1))))
        self.assertIs(is_sides(grid, any_units), True)
        self.assertIs(is_sides(grid, (any_units[0], any_units[1][:1])), False)

    def test_ten_full_rows(self):
        chance = random.Random(104)
        grid = sided_grid(chance, 3, 10, 1)
        unit = determinant_verdict(grid)
        self.assertEqual(unit, tuple(as_pair(exponent) for exponent in placing_unit(grid, tuple(range(10)))))
        self.assertIs(is_sides(grid, sides(grid)), True)
        self.assertIsNone(two_placings(grid))
        rows = [list(row) for row in grid.rows]
        rows[9][9] = ((6, 1), (6, 1), (6, 1))
        other = Grid(3, tuple(tuple(row) for row in rows))
        self.assertIsNone(determinant_verdict(other))
        self.assertIsNone(sides(other))
        pair = two_placings(other)
        self.assertIs(is_two_placings(other, pair), True)
        self.assertNotEqual(placing_unit(other, pair[0]), placing_unit(other, pair[1]))

    def test_what_has_a_unit_is_multiplied_by_its_factor(self):
        chance = random.Random(105)
        for _ in range(60):
            grid = sided_grid(chance, 2, chance.choice((2, 3)), 0.8)
            numbers = tuple(tuple((0, 1) if unit is None else as_pair(Fraction(chance.randint(-5, 5), chance.randint(1, 3)))
                                  for unit in row) for row in grid.rows)
            roots = ((2, 1), (3, 5))
            before = as_python(determinant(numbers))
            after = as_python(determinant(renumbered(grid, numbers, roots)))
            unit = determinant_verdict(grid)
            if unit == "nought":
                self.assertEqual((before, after), (0, 0))
            else:
                self.assertEqual(after, before * as_python(factor(unit, roots, bottom(grid))))

    def test_units_and_not_single_cells_are_compared(self):
        rows = [[None] * 4 for _ in range(4)]
        for i, j, unit in ((0, 0, M), (0, 1, H), (1, 0, H), (1, 1, N), (2, 2, M), (2, 3, D), (3, 2, D), (3, 3, ((-3, 1),))):
            rows[i][j] = unit
        grid = Grid(1, tuple(tuple(row) for row in rows))
        self.assertEqual(determinant_verdict(grid), D)
        self.check(grid)
        rows[3][3] = N
        grid = Grid(1, tuple(tuple(row) for row in rows))
        self.assertIsNone(determinant_verdict(grid))
        self.check(grid)


class JudgedTest(unittest.TestCase):
    GRID = Grid(1, ((M, N, None), (N, N, D), (None, D, H)))

    def test_two_placings(self):
        grid = self.GRID
        self.assertIs(is_two_placings(grid, ((0, 1, 2), (0, 2, 1))), True)
        self.assertIs(is_two_placings(grid, ((0, 1, 2), (1, 0, 2))), True)
        self.assertIs(is_two_placings(grid, ((1, 0, 2), (0, 2, 1))), True)
        one = (0, 1, 2)
        wrong = [(one, one), (one,), (one, (0, 2, 1), (1, 0, 2)), [one, (0, 2, 1)], (one, [0, 2, 1]), (one, (0, 2)),
                 (one, (0, 2, 1, 0)), (one, (2, 0, 1)), (one, (2, 1, 0)), (one, (0, 0, 2)), (one, (1, 1, 1)), (one, None),
                 (None, one), (one, (0, 2, True)), (one, (False, 2, 1)), (one, (0, 2, "1")), (one, (0, 2, 3)), ((), one),
                 (one, (0, 2, -2)), (one, (-3, 2, 1)), {0: one, 1: (0, 2, 1)}, one, (one, ((0,), 2, 1)), deep_tuple(one)]
        for thing in wrong_things() + wrong + [deep_list(one)] + [(one, thing) for thing in wrong_things()]:
            self.assertIs(is_two_placings(grid, thing), False, thing)
        alike = Grid(1, ((M, N), (N, D)))
        self.assertIs(is_two_placings(alike, ((0, 1), (1, 0))), False)

    def test_sides(self):
        grid = Grid(1, ((M, N), (N, D)))
        one = ((M, N), (N, D))
        for pair in (one, ((N, D), (M, N)), ((H, ((-1, 2),)), (H, ((-1, 2),)))):
            self.assertIs(is_sides(grid, pair), True)
        wrong = [((M, M), (N, D)), ((M, N), (M, D)), ((M, N), (N, N)), ((M, N), (D, N)), ((N, N), (N, D)), one + one, (one[0],),
                 list(one), (list(one[0]), one[1]), (one[0], list(one[1])), ((M,), (N, D)), ((M, N), (N,)), ((M, N, N), (N, D)),
                 ((M, N), (N, D, N)), (M, N), one[0], {0: one[0], 1: one[1]}, ((M, None), (N, D)), ((M, N), (N, None)),
                 ((M + N, N), (N, D)), ((M, N), (N, D + D)), ((M, [(0, 1)]), (N, D)), (("nought", N), (N, D)), ((), ())]
        for thing in wrong_things() + wrong_fractions():
            wrong += [(thing, one[1]), (one[0], thing), ((M, thing), one[1]), (one[0], (thing, D)), ((M, (thing,)), one[1])
                      if thing != (0, 1) else None]
        for thing in wrong_things() + wrong + [deep_tuple(one), deep_list(one)]:
            self.assertIs(is_sides(grid, thing), False, thing)

    def test_not_square_ahead_of_all(self):
        for rows, columns in ((1, 2), (2, 1), (9, 10), (10, 9)):
            grid = Grid(1, ((M,) * columns,) * rows)
            for call in (determinant_verdict, sides, two_placings):
                fails_with(self, NotSquare, lambda: call(grid))
            for thing in wrong_things() + [((M,), (M,)), ((0,), (0,))]:
                fails_with(self, NotSquare, lambda: is_sides(grid, thing))
                fails_with(self, NotSquare, lambda: is_two_placings(grid, thing))

    def test_nothing_that_is_passed_is_changed(self):
        grid, thing = copy.deepcopy(self.GRID), [[M, N], [0, 1]]
        kept = copy.deepcopy(thing)
        for call in (determinant_verdict, sides, two_placings):
            self.assertEqual(call(self.GRID), call(self.GRID))
        is_sides(self.GRID, thing)
        is_two_placings(self.GRID, thing)
        self.assertEqual((self.GRID, thing), (grid, kept))


if __name__ == "__main__":
    unittest.main()
