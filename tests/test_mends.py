"""Promises 6.5 and 7.3: the fewest noughts by which a cell, or a determinant, has a unit."""

import copy
import random
import time
import unittest
from itertools import combinations

from tests import oracle
from tests.test_determinants import sided_grid
from tests.things import fails_with, wrong_numbers, wrong_things
from unitgrids.determinants import determinant_verdict
from unitgrids.errors import NoCell, NoGrid, NoNumber, NotSquare
from unitgrids.grids import Grid, retold
from unitgrids.mends import fewest_noughts, fewest_struck
from unitgrids.placings import live
from unitgrids.scripts import Script, retold_in
from unitgrids.verdicts import verdict

N, M, D, H = ((0, 1),), ((1, 1),), ((-1, 1),), ((1, 2),)


def put_cells(script):
    return [(number, i, j) for number, grid in enumerate(script.grids) for i, row in enumerate(grid.rows)
            for j, unit in enumerate(row) if unit is not None]


def slow_noughts(script, at, i, j, most):
    """All lots one behind another, the least of each size first."""
    for size in range(most + 1):
        for lot in combinations(put_cells(script), size):
            other = script
            for number, p, q in lot:
                other = retold_in(other, number, p, q, None)
            if isinstance(verdict(other, at, i, j), tuple):
                return lot
    return None


def slow_struck(grid, most):
    for size in range(most + 1):
        for lot in combinations(live(grid), size):
            other = grid
            for i, j in lot:
                other = retold(other, i, j, None)
            if isinstance(determinant_verdict(other), tuple):
                return lot
    return None


class NoughtsTest(unittest.TestCase):
    def test_like_all_lots_one_behind_another(self):
        chance = random.Random(201)
        sizes = {}
        for _ in range(260):
            script = oracle.random_script(chance, steps=chance.choice((1, 2, 3, 4)), grids=2, most=3,
                                          fill=chance.choice((0.5, 0.8)), plain=chance.random() < 0.8)
            if len(put_cells(script)) > 13:
                continue
            cells = [cell for cell in oracle.all_cells(script) if cell[0] >= len(script.grids)]
            chance.shuffle(cells)
            for at, i, j in cells[:3]:
                most = chance.choice((0, 1, 2, 2, 3, 3))
                expected = slow_noughts(script, at, i, j, most)
                self.assertEqual(fewest_noughts(script, at, i, j, most), expected)
                size = "none" if expected is None else len(expected)
                sizes[size] = sizes.get(size, 0) + 1
        self.assertGreater(min(sizes.get(size, 0) for size in ("none", 0, 1, 2)), 10)
        self.assertGreater(sizes.get(3, 0), 0)

    def test_lots_that_leave_no_way(self):
        """Paths beside one another: many lots cut them all."""
        chance = random.Random(206)
        sizes = {}
        for _ in range(150):
            many = chance.choice((4, 5))
            cells = [(p, q) for p in range(many) for q in range(many)]
            chance.shuffle(cells)
            rows = [[None] * many for _ in range(many)]
            for p, q in cells[:chance.randint(6, 11)]:
                rows[p][q] = chance.choice((N, N, N, M))
            grid = Grid(1, tuple(tuple(row) for row in rows))
            script = Script((grid,), (("star", 0), ("times", 1, 1))[:chance.randint(1, 2)])
            at = len(script.steps)
            i, j = chance.randrange(many), chance.randrange(many)
            expected = slow_noughts(script, at, i, j, 3)
            self.assertEqual(fewest_noughts(script, at, i, j, 3), expected)
            size = "none" if expected is None else len(expected)
            sizes[size] = sizes.get(size, 0) + 1
        self.assertGreater(min(sizes.get(size, 0) for size in ("none", 0, 1, 2, 3)), 2)

    def test_by_hand(self):
        script = Script((Grid(1, ((M, D, N),)), Grid(1, ((N,), (N,), (N,)))), (("times", 0, 1),))
        self.assertEqual(fewest_noughts(script, 2, 0, 0, 3), ((0, 0, 0), (0, 0, 1)))
        self.assertEqual(fewest_noughts(script, 2, 0, 0, 2), ((0, 0, 0), (0, 0, 1)))
        self.assertIsNone(fewest_noughts(script, 2, 0, 0, 1))
        self.assertIsNone(fewest_noughts(script, 2, 0, 0, 0))
        self.assertEqual(fewest_noughts(script, 0, 0, 1, 0), ())
        self.assertEqual(fewest_noughts(script, 1, 2, 0, 3), ())

    def test_a_nought_stays_one(self):
        script = Script((Grid(1, ((M, None), (D, None))),), (("star", 0), ("turned", 1)))
        for most in range(4):
            self.assertIsNone(fewest_noughts(script, 0, 0, 1, most))
            self.assertIsNone(fewest_noughts(script, 1, 0, 1, most))
            self.assertIsNone(fewest_noughts(script, 2, 1, 1, most))
        # The cell has a unit only together with rounds that have none: without them it is nought.
        script = Script((Grid(1, ((M,),)),), (("star", 0),))
        self.assertIsNone(fewest_noughts(script, 1, 0, 0, 3))

    def test_three_cells(self):
        row = (M, D, H, N, N, N)
        script = Script((Grid(1, (row,)), Grid(1, ((N,),) * 6)), (("times", 0, 1),))
        self.assertEqual(fewest_noughts(script, 2, 0, 0, 3), ((0, 0, 0), (0, 0, 1), (0, 0, 2)))
        self.assertIsNone(fewest_noughts(script, 2, 0, 0, 2))
        script = Script((Grid(1, ((N,),) * 6), Grid(1, (row,))), (("times", 1, 0),))
        self.assertEqual(fewest_noughts(script, 2, 0, 0, 3), ((0, 0, 0), (0, 1, 0), (0, 2, 0)))
        four = Script((Grid(1, ((M, D, H, ((3, 1),), N, N, N, N, N),)), Grid(1, ((N,),) * 9)), (("times", 0, 1),))
        self.assertIsNone(fewest_noughts(four, 2, 0, 0, 3))

    def test_the_least_and_not_the_first_that_comes_to_mind(self):
        # Either of the last two cells of both grids mends it; the least one is asked for.
        script = Script((Grid(1, ((N, M),)), Grid(1, ((N,), (N,)))), (("times", 0, 1),))
        self.assertEqual(fewest_noughts(script, 2, 0, 0, 1), ((0, 0, 0),))
        script = Script((Grid(1, ((N, M, N),)), Grid(1, ((N,), (N,), (N,)))), (("times", 0, 1),))
        self.assertEqual(fewest_noughts(script, 2, 0, 0, 1), ((0, 0, 1),))

    def test_stars_of_rings(self):
        rows = [[None] * 6 for _ in range(6)]
        for k in range(6):
            rows[k][(k + 1) % 6] = N
        rows[0][3] = M
        script = Script((Grid(1, tuple(tuple(row) for row in rows)),), (("star", 0),))
        # With the cell of 0 and 3 there are rounds that have units, whatever else is struck.
        for start, end in ((0, 4), (0, 1), (3, 0)):
            self.assertEqual(fewest_noughts(script, 1, start, end, 3), ((0, 0, 3),))
            self.assertEqual(slow_noughts(script, 1, start, end, 3), ((0, 0, 3),))
        rows[5][0] = None
        script = Script((Grid(1, tuple(tuple(row) for row in rows)),), (("star", 0),))
        self.assertEqual(fewest_noughts(script, 1, 0, 5, 3), ((0, 0, 1),))
        self.assertEqual(slow_noughts(script, 1, 0, 5, 3), ((0, 0, 1),))

    def test_forty_cells_with_stars(self):
        chance = random.Random(202)
        took = 0
        for _ in range(4):
            cells = [(i, j) for i in range(8) for j in range(8)]
            chance.shuffle(cells)
            rows = [[None] * 8 for _ in range(8)]
            for i, j in cells[:40]:
                rows[i][j] = ((i - j, 1),) if abs(i - j) < 7 else N
            for i, j in cells[:chance.choice((1, 2, 3, 5))]:
                rows[i][j] = H
            script = Script((Grid(1, tuple(tuple(row) for row in rows)),),
                            (("star", 0), ("times", 1, 0), ("star", 2), ("plus", 3, 1), ("times", 4, 4)))
            start = time.perf_counter()
            lot = fewest_noughts(script, 5, 0, 7, 3)
            took = max(took, time.perf_counter() - start)
            if lot is not None:
                other = script
                for number, p, q in lot:
                    other = retold_in(other, number, p, q, None)
                self.assertIsInstance(verdict(other, 5, 0, 7), tuple)
        self.assertLess(took, 30)

    def test_forty_cells_in_six_grids(self):
        # Five wrong cells in one sum: no three mend it.
        wide = Grid(1, ((M, D, H, ((3, 1),), ((4, 1),), N, N, N, N, N),))
        high = Grid(1, ((N,),) * 10)
        script = Script((wide, high, wide, high), (("times", 0, 1), ("times", 2, 3), ("plus", 4, 5), ("star", 6)))
        self.assertIsNone(fewest_noughts(script, 6, 0, 0, 3))
        self.assertIsNone(fewest_noughts(script, 7, 0, 0, 3))
        self.assertIsNone(fewest_noughts(script, 4, 0, 0, 3))

    def test_errors_in_their_order(self):
        script = Script((Grid(1, ((M, D),)),), (("turned", 0),))
        for thing in wrong_numbers() + [4, 5, 10 ** 39]:
            fails_with(self, NoNumber, lambda: fewest_noughts(script, 1, 1, 0, thing))
            fails_with(self, NoGrid, lambda: fewest_noughts(script, 2, 5, 5, thing))
            fails_with(self, NoCell, lambda: fewest_noughts(script, 1, 2, 0, thing))
        for thing in wrong_numbers() + [2]:
            fails_with(self, NoGrid, lambda: fewest_noughts(script, thing, 0, 0, None))
            fails_with(self, NoCell, lambda: fewest_noughts(script, 0, thing, 0, None))
            fails_with(self, NoCell, lambda: fewest_noughts(script, 0, 0, thing, None))
        for most in range(4):
            self.assertEqual(fewest_noughts(script, 1, 1, 0, most), ())


class StruckTest(unittest.TestCase):
    def test_like_all_lots_one_behind_another(self):
        chance = random.Random(203)
        sizes = {}
        for _ in range(300):
            many = chance.choice((1, 2, 3, 3, 4))
            grid = sided_grid(chance, chance.randint(1, 2), many, chance.choice((0.6, 0.8, 1)), chance.randint(0, 4))
            if len(live(grid)) > 14:
                continue
            most = chance.choice((0, 1, 2, 3, 3))
            expected = slow_struck(grid, most)
            self.assertEqual(fewest_struck(grid, most), expected)
            size = "none" if expected is None else len(expected)
            sizes[size] = sizes.get(size, 0) + 1
        self.assertGreater(min(sizes.get(size, 0) for size in ("none", 0, 1, 2, 3)), 3)

    def test_by_hand(self):
        grid = Grid(1, ((M, N), (N, N)))
        self.assertEqual(fewest_struck(grid, 3), ((0, 0),))
        self.assertIsNone(fewest_struck(grid, 0))
        self.assertEqual(fewest_struck(Grid(1, ((M, N), (N, D))), 0), ())
        self.assertEqual(fewest_struck(Grid(1, ((M,),)), 0), ())
        self.assertIsNone(fewest_struck(Grid(1, ((None,),)), 3))
        self.assertIsNone(fewest_struck(Grid(1, ((M, None), (D, None))), 3))
        # A cell that no placing has is never struck.
        grid = Grid(1, ((H, None, None), (M, M, N), (D, N, N)))
        self.assertEqual(fewest_struck(grid, 1), ((1, 1),))

    def test_ten_full_rows(self):
        chance = random.Random(204)
        grid = sided_grid(chance, 2, 10, 1)
        self.assertEqual(fewest_struck(grid, 3), ())
        start = time.perf_counter()
        wrong = sorted(chance.sample([(i, j) for i in range(10) for j in range(10)], 5))
        for many in (1, 2, 3, 4, 5):
            rows = [list(row) for row in grid.rows]
            for k, (i, j) in enumerate(wrong[:many]):
                rows[i][j] = ((6 - k % 2, 1), (5, 1 + k % 3))
            told = Grid(2, tuple(tuple(row) for row in rows))
            found = fewest_struck(told, 3)
            if many <= 3:
                self.assertEqual(found, tuple(wrong[:many]))
            else:
                self.assertIsNone(found)
        self.assertLess(time.perf_counter() - start, 60)

    def test_ten_rows_of_any_units(self):
        chance = random.Random(205)
        rows = tuple(tuple(oracle.random_unit(chance, 3, False) for _ in range(10)) for _ in range(10))
        self.assertIsNone(fewest_struck(Grid(3, rows), 3))

    def test_rings_of_rows(self):
        # Two placings only, of unlike units: the first cell of all mends it.
        rows = [[None] * 10 for _ in range(10)]
        for k in range(10):
            rows[k][k] = N
            rows[k][(k + 1) % 10] = M
        grid = Grid(1, tuple(tuple(row) for row in rows))
        self.assertEqual(fewest_struck(grid, 3), ((0, 0),))
        # Five pairs of rows, each of which has two: three cells do not mend it.
        rows = [[None] * 10 for _ in range(10)]
        for k in range(0, 10, 2):
            rows[k][k], rows[k][k + 1], rows[k + 1][k], rows[k + 1][k + 1] = M, N, N, N
        self.assertIsNone(fewest_struck(Grid(1, tuple(tuple(row) for row in rows)), 3))
        rows[6][7] = rows[8][9] = None
        self.assertEqual(fewest_struck(Grid(1, tuple(tuple(row) for row in rows)), 3), ((0, 0), (2, 2), (4, 4)))

    def test_errors_in_their_order(self):
        for thing in wrong_numbers() + [4, 5, 10 ** 39]:
            fails_with(self, NoNumber, lambda: fewest_struck(Grid(1, ((M,),)), thing))
            fails_with(self, NotSquare, lambda: fewest_struck(Grid(1, ((M, N),)), thing))
        for most in range(4):
            fails_with(self, NotSquare, lambda: fewest_struck(Grid(1, ((M,), (N,))), most))

    def test_nothing_that_is_passed_is_changed(self):
        grid = Grid(1, ((M, N), (N, N)))
        script = Script((grid,), (("star", 0),))
        kept = copy.deepcopy((grid, script))
        things = wrong_things()
        self.assertEqual(fewest_struck(grid, 2), fewest_struck(grid, 2))
        self.assertEqual(fewest_noughts(script, 1, 0, 1, 2), fewest_noughts(script, 1, 0, 1, 2))
        self.assertEqual((grid, script), kept)
        self.assertEqual(len(things), len(wrong_things()))


if __name__ == "__main__":
    unittest.main()
