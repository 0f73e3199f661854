"""Promise 7.1: placings, live cells and starving rows."""

import copy
import random
import unittest
from itertools import combinations, permutations, product
from math import factorial

from tests import oracle
from tests.things import deep_list, deep_tuple, fails_with, wrong_things
from unitgrids.errors import NotSquare
from unitgrids.grids import Grid
from unitgrids.placings import is_starving, least_placing, live, many_placings, starving

N = ((0, 1),)


def grid_of(*lines):
    """A grid by lines: x for a cell that is no nought."""
    return Grid(1, tuple(tuple(N if sign == "x" else None for sign in line) for line in lines))


def all_placings(grid):
    many = len(grid.rows)
    return [columns for columns in permutations(range(many))
            if all(grid.rows[i][column] is not None for i, column in enumerate(columns))]


def starves(grid, lot):
    """Whether an ascending tuple of rows stands in fewer columns than it has rows."""
    return len({j for i in lot for j, unit in enumerate(grid.rows[i]) if unit is not None}) < len(lot)


class PlacingTest(unittest.TestCase):
    def check(self, grid):
        placings = all_placings(grid)
        many = len(grid.rows)
        self.assertEqual(many_placings(grid), len(placings))
        self.assertEqual(least_placing(grid), placings[0] if placings else None)
        cells = sorted({(i, column) for columns in placings for i, column in enumerate(columns)})
        self.assertEqual(live(grid), cells)
        self.assertIsInstance(live(grid), list)
        lot = starving(grid)
        self.assertIs(lot is None, bool(placings))
        for size in range(many + 1):
            for rows in combinations(range(many), size):
                self.assertIs(is_starving(grid, rows), starves(grid, rows))
        if lot is not None:
            self.assertIsInstance(lot, tuple)
            self.assertEqual(lot, tuple(sorted(set(lot))))
            self.assertIs(is_starving(grid, lot), True)

    def test_all_small_grids(self):
        for many in (1, 2, 3):
            for signs in product("x.", repeat=many * many):
                text = "".join(signs)
                self.check(grid_of(*[text[k * many:k * many + many] for k in range(many)]))

    def test_some_greater_grids(self):
        chance = random.Random(91)
        for _ in range(120):
            many = chance.choice((4, 5))
            self.check(oracle.random_grid(chance, 2, many, many, fill=chance.choice((0.3, 0.45, 0.6, 0.9))))

    def test_by_hand(self):
        grid = grid_of("xx.", "x.x", ".xx")
        self.assertEqual(many_placings(grid), 2)
        self.assertEqual(least_placing(grid), (0, 2, 1))
        self.assertEqual(live(grid), [(0, 0), (0, 1), (1, 0), (1, 2), (2, 1), (2, 2)])
        self.assertIsNone(starving(grid))
        grid = grid_of("xxx", ".xx", "..x")
        self.assertEqual((many_placings(grid), least_placing(grid)), (1, (0, 1, 2)))
        self.assertEqual(live(grid), [(0, 0), (1, 1), (2, 2)])
        grid = grid_of("x..", "xxx", "x..")
        self.assertEqual((many_placings(grid), least_placing(grid), live(grid), starving(grid)), (0, None, [], (0, 2)))
        self.assertEqual([lot for size in range(4) for lot in combinations(range(3), size) if is_starving(grid, lot)],
                         [(0, 2)])

    def test_one_row(self):
        self.assertEqual((many_placings(grid_of("x")), least_placing(grid_of("x")), live(grid_of("x"))), (1, (0,), [(0, 0)]))
        self.assertIsNone(starving(grid_of("x")))
        self.assertEqual((many_placings(grid_of(".")), least_placing(grid_of(".")), live(grid_of("."))), (0, None, []))
        self.assertEqual(starving(grid_of(".")), (0,))
        self.assertIs(is_starving(grid_of("."), (0,)), True)
        self.assertIs(is_starving(grid_of("x"), (0,)), False)

    def test_ten_full_rows(self):
        grid = grid_of(*["x" * 10] * 10)
        self.assertEqual(many_placings(grid), factorial(10))
        self.assertEqual(least_placing(grid), tuple(range(10)))
        self.assertEqual(live(grid), list(product(range(10), repeat=2)))
        self.assertIsNone(starving(grid))
        for lot in ((), (0,), tuple(range(10))):
            self.assertIs(is_starving(grid, lot), False)

    def test_ten_rows(self):
        grid = grid_of(*["x" * 9 + "."] * 10)
        self.assertEqual((many_placings(grid), least_placing(grid), live(grid)), (0, None, []))
        self.assertEqual(starving(grid), tuple(range(10)))
        back = grid_of(*["." * k + "x" + "." * (9 - k) for k in reversed(range(10))])
        self.assertEqual((many_placings(back), least_placing(back)), (1, tuple(reversed(range(10)))))
        self.assertEqual(live(back), [(i, 9 - i) for i in range(10)])
        self.assertIsNone(starving(back))
        wide = grid_of(*["x" * 10] * 6 + ["xxx......."] * 4)
        self.assertEqual((many_placings(wide), starving(wide)), (0, (6, 7, 8, 9)))
        stairs = grid_of(*["x" * (k + 1) + "." * (9 - k) for k in range(9)], "x" * 10)
        self.assertEqual((many_placings(stairs), live(stairs)), (1, [(k, k) for k in range(10)]))

    def test_empty_grids(self):
        for many in (1, 2, 5, 10):
            grid = grid_of(*["." * many] * many)
            self.assertEqual((many_placings(grid), least_placing(grid), live(grid)), (0, None, []))
            for k in range(many):
                self.assertIs(is_starving(grid, (k,)), True)
            self.assertIs(is_starving(grid, ()), False)
            self.assertIs(is_starving(grid, tuple(range(many))), True)


class AnythingTest(unittest.TestCase):
    GRID = grid_of("x..", "x..", "x..")

    def test_what_is_no_starving_lot(self):
        wrong = wrong_things() + [[0, 1], (1, 0), (0, 0), (0, 1, 1), (0, 3), (-1, 0), (True,), (0, True), (False, 1), (0, "1")]
        wrong += [(0, None), ((0,), (1,)), {0: 0, 1: 1}, "01", 0, 1, (0,), (10 ** 40,), (2, 1), (0, 2, 1), deep_tuple(0)]
        wrong += [deep_list(0), (0, deep_tuple(1)), (0, 1, 2, 3), b"\x00\x01", ([0], 1)]
        for thing in wrong:
            self.assertIs(is_starving(self.GRID, thing), False, thing)
        for lot in ((0, 1), (0, 2), (1, 2), (0, 1, 2)):
            self.assertIs(is_starving(self.GRID, lot), True)

    def test_not_square_ahead_of_all(self):
        for rows, columns in ((1, 2), (2, 1), (1, 10), (10, 1), (9, 10), (3, 2)):
            grid = grid_of(*["x" * columns] * rows)
            for call in (many_placings, least_placing, live, starving):
                fails_with(self, NotSquare, lambda: call(grid))
            for thing in wrong_things() + [(0, 1)]:
                fails_with(self, NotSquare, lambda: is_starving(grid, thing))

    def test_nothing_that_is_passed_is_changed(self):
        grid, thing = copy.deepcopy(self.GRID), [0, [1]]
        for call in (many_placings, least_placing, live, starving):
            self.assertEqual(call(self.GRID), call(self.GRID))
        is_starving(self.GRID, thing)
        self.assertEqual((self.GRID, thing), (grid, [0, [1]]))
        found = live(grid_of("x"))
        found.clear()
        self.assertEqual(live(grid_of("x")), [(0, 0)])


if __name__ == "__main__":
    unittest.main()
