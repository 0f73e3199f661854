"""Promise 10.1: powers of numbers, verdicts on powers of grids, differences and unlike rows."""

import copy
import random
import time
import unittest
from fractions import Fraction
from itertools import product

from tests.signs import (BIG, D, H, M, N, ROOTS, as_pairs, fitting_scale, heighted_grid, in_other_units, multiply,
                         random_numbers, same_rows, told)
from tests.test_inverses import NO_SQUARES, exponents
from tests.things import (as_pair, as_python, deep_list, deep_tuple, fails_with, wrong_fractions, wrong_numbers,
                          wrong_things)
from unitgrids.errors import NoCell, NoNumber, NoSquare, NotSquare
from unitgrids.grids import Grid
from unitgrids.powers import differences, is_unlike_rows, keeps, power, power_verdict, unlike_rows
from unitgrids.units import factor


def slow_power(rows, many):
    found = same_rows(len(rows))
    for _ in range(many):
        found = multiply(found, rows)
    return found


def weights_of_power(grid, most):
    """For each number of steps up to most: the sets of what rows of places weigh, up to two of each."""
    many = len(grid.rows)
    cells = [[set() if unit is None else {tuple(exponents(unit))} for unit in row] for row in grid.rows]
    found = [None, cells]
    for _ in range(most - 1):
        last = found[-1]
        found.append([[set(sorted({tuple(x + y for x, y in zip(one, other)) for k in range(many)
                                   for one in last[i][k] for other in cells[k][j]})[:2]) for j in range(many)] for i in range(many)])
    return found


def verdict_of(weights):
    if not weights:
        return "nought"
    return tuple(as_pair(one) for one in min(weights)) if len(weights) == 1 else None


def slow_pairs(grid):
    """The pairs that the document's words name, by sets of pairs for each number of cells."""
    many = len(grid.rows)
    ahead = {(p, p) for p in range(many)}
    behind = set(ahead)
    for found, turned in ((ahead, False), (behind, True)):
        while True:
            more = {(q, s) for p, r in found for q in range(many) for s in range(many)
                    if (grid.rows[q][p] if turned else grid.rows[p][q]) is not None
                    and (grid.rows[s][r] if turned else grid.rows[r][s]) is not None} - found
            if not more:
                break
            found |= more
    return ahead & behind


def row_weight(grid, row):
    weight = [Fraction(0)] * grid.bases
    for p, q in zip(row, row[1:]):
        weight = [one + other for one, other in zip(weight, exponents(grid.rows[p][q]))]
    return weight


def random_grids(seed, times):
    chance = random.Random(seed)
    for _ in range(times):
        many = chance.choice((1, 2, 3, 3, 4, 4))
        yield chance, heighted_grid(chance, chance.randint(1, 2), many, chance.choice((0.2, 0.35, 0.5, 1)),
                                    chance.choice((0, 0, 1, 2)), Fraction(chance.randint(-1, 1), chance.choice((1, 2))))


class PowerTest(unittest.TestCase):
    def test_by_hand(self):
        self.assertEqual(power((((1, 2),),), 3), (((1, 8),),))
        self.assertEqual(power(as_pairs([[1, 1], [0, 1]]), 60), as_pairs([[1, 60], [0, 1]]))
        self.assertEqual(power(as_pairs([[0, 1], [0, 0]]), 2), as_pairs([[0, 0], [0, 0]]))
        numbers = (((-3, 7), (0, 1)), ((5, 2), (1, 9)))
        self.assertEqual(power(numbers, 1), numbers)

    def test_like_fractions(self):
        chance = random.Random(231)
        for many in list(range(1, 61)) + [60, 59, 2, 3]:
            size = chance.choice((1, 2, 3))
            rows = [[Fraction(chance.randint(-4, 4), chance.randint(1, 4)) for _ in range(size)] for _ in range(size)]
            self.assertEqual(power(as_pairs(rows), many), as_pairs(slow_power(rows, many)))

    def test_great_numbers(self):
        chance = random.Random(232)
        start = time.perf_counter()
        rows = [[Fraction(chance.randint(-BIG, BIG)) for _ in range(10)] for _ in range(10)]
        self.assertEqual(power(as_pairs(rows), 60), as_pairs(slow_power(rows, 60)))
        rows = [[Fraction(chance.randint(-BIG, BIG), chance.randint(1, BIG)) for _ in range(2)] for _ in range(2)]
        self.assertEqual(power(as_pairs(rows), 60), as_pairs(slow_power(rows, 60)))
        rows = [[Fraction(chance.randint(-BIG, BIG), chance.randint(1, BIG)) for _ in range(10)] for _ in range(10)]
        self.assertEqual(power(as_pairs(rows), 3), as_pairs(slow_power(rows, 3)))
        self.assertLess(time.perf_counter() - start, 30)

    def test_errors_in_their_order(self):
        one = (((1, 1),),)
        for thing in wrong_numbers() + [0, 61, 62, 10 ** 39]:
            fails_with(self, NoNumber, lambda: power(one, thing))
            for numbers in wrong_things() + NO_SQUARES:
                fails_with(self, NoSquare, lambda: power(numbers, thing))
        for thing in wrong_things() + wrong_fractions():
            fails_with(self, NoSquare, lambda: power((((1, 1), (1, 1)), ((1, 1), thing)), 1))
        self.assertEqual([power(one, many) for many in (1, 60)], [one, one])


class PowerVerdictTest(unittest.TestCase):
    def test_like_all_rows_of_places(self):
        kinds = {}
        for chance, grid in random_grids(233, 150):
            found = weights_of_power(grid, 7)
            for many in range(1, 8):
                for i in range(len(grid.rows)):
                    for j in range(len(grid.rows)):
                        verdict = verdict_of(found[many][i][j])
                        self.assertEqual(power_verdict(grid, many, i, j), verdict)
                        kind = "unit" if isinstance(verdict, tuple) else str(verdict)
                        kinds[kind] = kinds.get(kind, 0) + 1
        self.assertGreater(min(kinds[kind] for kind in ("unit", "None", "nought")), 300)

    def test_what_has_a_unit_is_multiplied_by_its_factor(self):
        for chance, grid in random_grids(234, 60):
            scale, many = fitting_scale(grid), chance.randint(1, 5)
            samples = [random_numbers(chance, grid) for _ in range(3)]
            before = [slow_power(rows, many) for rows in samples]
            after = [slow_power(in_other_units(grid, rows, scale), many) for rows in samples]
            for i, j in product(range(len(grid.rows)), repeat=2):
                verdict = power_verdict(grid, many, i, j)
                for one, other in zip(before, after):
                    if isinstance(verdict, tuple):
                        self.assertEqual(other[i][j], one[i][j] * as_python(factor(verdict, ROOTS[:grid.bases], scale)))
                    elif verdict == "nought":
                        self.assertEqual((one[i][j], other[i][j]), (0, 0))
                if verdict is None:
                    self.assertGreater(len({other[i][j] / one[i][j] if one[i][j] else None for one, other in zip(before, after)}), 1)

    def test_the_greatest_powers(self):
        ring = Grid(1, ((None, M), (N, None)))
        self.assertEqual(power_verdict(ring, 200, 0, 0), ((100, 1),))
        self.assertEqual(power_verdict(ring, 199, 0, 1), ((100, 1),))
        self.assertEqual(power_verdict(ring, 199, 0, 0), "nought")
        self.assertEqual(power_verdict(ring, 1, 1, 0), N)
        full = heighted_grid(random.Random(235), 3, 10, 1, 0, Fraction(1, 2))
        start = time.perf_counter()
        self.assertEqual(power_verdict(full, 200, 4, 4), ((100, 1),) * 3)
        rows = [list(row) for row in full.rows]
        rows[9][9] = ((6, 1),) * 3
        self.assertIsNone(power_verdict(Grid(3, told(rows)), 200, 4, 4))
        self.assertLess(time.perf_counter() - start, 10)
        stairs = Grid(1, told([[N if j == i + 1 else None for j in range(10)] for i in range(10)]))
        self.assertEqual([power_verdict(stairs, many, 0, 9) for many in (8, 9, 10, 200)], ["nought", N, "nought", "nought"])

    def test_errors_in_their_order(self):
        grid, wide = Grid(1, ((M, N), (N, D))), Grid(1, ((M, N),))
        for thing in wrong_numbers() + [0, 201, 10 ** 39]:
            fails_with(self, NoNumber, lambda: power_verdict(grid, thing, 0, 0))
            fails_with(self, NoNumber, lambda: power_verdict(grid, thing, None, 5))
            fails_with(self, NotSquare, lambda: power_verdict(wide, thing, 0, 0))
        for place in wrong_numbers() + [2, 10 ** 39]:
            fails_with(self, NoCell, lambda: power_verdict(grid, 1, place, 0))
            fails_with(self, NoCell, lambda: power_verdict(grid, 200, 0, place))
            fails_with(self, NotSquare, lambda: power_verdict(wide, 1, 0, place))


class FifthFactTest(unittest.TestCase):
    def test_like_all_rows_of_places(self):
        kinds = {True: 0, False: 0}
        lengths = set()
        for chance, grid in random_grids(236, 300):
            many = len(grid.rows)
            found = weights_of_power(grid, 2 * many * many + 2)
            unlike = [k for k in range(1, len(found)) if any(len(cell) > 1 for row in found[k] for cell in row)]
            kinds[not unlike] += 1
            self.assertIs(keeps(grid), not unlike)
            rows, told_differences = unlike_rows(grid), differences(grid)
            self.assertIs(rows is None, not unlike)
            self.assertIs(told_differences is None, bool(unlike))
            if unlike:
                self.assertEqual([type(rows), type(rows[0]), type(rows[1])], [tuple] * 3)
                self.assertEqual([len(row) for row in rows], [unlike[0] + 1] * 2)
                self.assertEqual([rows[0][0], rows[0][-1]], [rows[1][0], rows[1][-1]])
                self.assertTrue(all(grid.rows[p][q] is not None for row in rows for p, q in zip(row, row[1:])))
                self.assertNotEqual(row_weight(grid, rows[0]), row_weight(grid, rows[1]))
                self.assertIs(is_unlike_rows(grid, rows), True)
                lengths.add(unlike[0])
            else:
                self.check_differences(grid, told_differences, found)
        self.assertGreater(min(kinds.values()), 80)
        self.assertGreater(len(lengths), 2)

    def check_differences(self, grid, told_differences, found):
        self.assertIsInstance(told_differences, dict)
        self.assertEqual(set(told_differences), slow_pairs(grid))
        for (p, q), unit in told_differences.items():
            if p == q:
                self.assertEqual(unit, ((0, 1),) * grid.bases)
            for weights in found[1:]:
                for row in weights:
                    for one in row[p]:
                        for other in row[q]:
                            self.assertEqual([x - y for x, y in zip(one, other)], exponents(unit))

    def test_by_hand(self):
        grid = Grid(1, ((None, M, N, None), (None, None, None, N), (None, None, None, M), (None, None, None, None)))
        unitless = {(p, p): N for p in range(4)}
        self.assertEqual(differences(grid), {**unitless, (1, 2): M, (2, 1): D})
        self.assertIs(keeps(grid), True)
        self.assertIsNone(unlike_rows(grid))
        rows = [list(row) for row in grid.rows]
        rows[2][3] = N
        other = Grid(1, told(rows))
        self.assertIs(keeps(other), False)
        self.assertIsNone(differences(other))
        self.assertEqual(sorted(unlike_rows(other)), [(0, 1, 3), (0, 2, 3)])
        # Rows that come to no one place tell nothing.
        rows[2][3] = None
        self.assertEqual(differences(Grid(1, told(rows))), unitless)

    def test_rounds_of_one_length_alone(self):
        # Own numbers may have no unit while all powers are kept, and the other way about.
        grid = Grid(1, ((M, None), (None, D)))
        self.assertIs(keeps(grid), True)
        self.assertEqual(differences(grid), {(0, 0): N, (1, 1): N})
        grid = Grid(1, ((M, N), (None, D)))
        self.assertIs(keeps(grid), False)
        self.assertEqual(sorted(unlike_rows(grid)), [(0, 0, 1), (0, 1, 1)])

    def test_one_row_and_none(self):
        for unit in (None, N, M, H):
            grid = Grid(1, ((unit,),))
            self.assertEqual((keeps(grid), differences(grid), unlike_rows(grid)), (True, {(0, 0): N}, None))
        empty = Grid(2, ((None, None), (None, None)))
        self.assertEqual(differences(empty), {(0, 0): ((0, 1),) * 2, (1, 1): ((0, 1),) * 2})

    def test_long_ways_to_unlike_rows(self):
        # Two rings of 4 and 5 places: rows are equally long only after many cells.
        rows = [[None] * 9 for _ in range(9)]
        for p, q in ((0, 1), (1, 2), (2, 3), (3, 0), (0, 4), (4, 5), (5, 6), (6, 7), (7, 0)):
            rows[p][q] = N
        rows[3][0] = M
        grid = Grid(1, told(rows))
        self.assertIs(keeps(grid), False)
        found = weights_of_power(grid, 40)
        shortest = min(k for k in range(1, 41) if any(len(cell) > 1 for row in found[k] for cell in row))
        pair = unlike_rows(grid)
        self.assertEqual([len(row) for row in pair], [shortest + 1] * 2)
        self.assertEqual(shortest, 20)
        self.assertIs(is_unlike_rows(grid, pair), True)

    def test_ten_full_rows(self):
        chance = random.Random(237)
        grid = heighted_grid(chance, 3, 10, 1, 0, Fraction(1, 2))
        start = time.perf_counter()
        self.assertIs(keeps(grid), True)
        found = differences(grid)
        self.assertEqual(len(found), 100)
        for p, q in product(range(10), repeat=2):
            self.assertEqual(exponents(found[(p, q)]), [one - other for one, other in zip(*map(exponents, (grid.rows[0][p], grid.rows[0][q])))])
        rows = [list(row) for row in grid.rows]
        rows[7][2] = ((6, 1),) * 3
        pair = unlike_rows(Grid(3, told(rows)))
        self.assertEqual([len(row) for row in pair], [3, 3])
        self.assertIs(is_unlike_rows(Grid(3, told(rows)), pair), True)
        self.assertLess(time.perf_counter() - start, 10)


class JudgedTest(unittest.TestCase):
    GRID = Grid(1, ((M, N, None), (D, N, H), (N, None, None)))

    def test_unlike_rows(self):
        grid = self.GRID
        tuples = [row for size in range(4) for row in product(range(3), repeat=size)]
        right = 0
        for one in tuples:
            for other in tuples:
                there = bool(one and other) and len(one) == len(other) and one[0] == other[0] and one[-1] == other[-1] and all(
                    grid.rows[p][q] is not None for row in (one, other) for p, q in zip(row, row[1:]))
                expected = there and row_weight(grid, one) != row_weight(grid, other)
                right += expected
                self.assertIs(is_unlike_rows(grid, (one, other)), expected)
        self.assertGreater(right, 10)

    def test_of_any_length(self):
        grid = Grid(1, ((M, N), (N, N)))
        one, other = (0,) * 3000, (0,) + (1,) * 2998 + (0,)
        self.assertIs(is_unlike_rows(grid, (one, other)), True)
        self.assertIs(is_unlike_rows(grid, (one, one)), False)
        self.assertIs(is_unlike_rows(grid, (one, other[1:])), False)

    def test_what_is_no_pair_of_rows(self):
        grid = self.GRID
        one, other = (0, 0, 0), (0, 1, 0)
        self.assertIs(is_unlike_rows(grid, (one, other)), True)
        wrong = [(one,), (one, other, other), [one, other], ([0, 0, 0], other), (one, [0, 1, 0]), (one, (0, True, 0)), (one, (False, 1, 0)),
                 (one, (0, "1", 0)), (one, (0, 3, 0)), (one, (0, -2, 0)), (one, (0, (1,), 0)), (one, (0, 2, 0)), (one, (0, 1, 1, 0)), ((), ()),
                 ((0,), (0,)), ((0,), (1,)), (None, other), (one, None), {0: one, 1: other}, one, (one, (0, None, 0)), deep_tuple((one, other))]
        wrong += [(one, thing) for thing in wrong_things()] + [(thing, thing) for thing in wrong_things()]
        for thing in wrong_things() + wrong + [deep_list(one)]:
            self.assertIs(is_unlike_rows(grid, thing), False, thing)

    def test_not_square_ahead_of_all(self):
        for rows, columns in ((1, 2), (2, 1), (9, 10), (10, 9)):
            grid = Grid(1, ((M,) * columns,) * rows)
            for call in (keeps, differences, unlike_rows):
                fails_with(self, NotSquare, lambda: call(grid))
            for thing in wrong_things() + [((0, 0), (0, 0))]:
                fails_with(self, NotSquare, lambda: is_unlike_rows(grid, thing))

    def test_what_is_returned_is_new(self):
        grid, thing = copy.deepcopy(self.GRID), [[0], {1: [2]}]
        kept = copy.deepcopy(thing)
        same = Grid(1, ((N, N), (N, N)))
        found = differences(same)
        found.clear()
        self.assertEqual(len(differences(same)), 4)
        for call in (keeps, differences, unlike_rows):
            self.assertEqual(call(self.GRID), call(self.GRID))
        self.assertIs(is_unlike_rows(self.GRID, thing), False)
        self.assertEqual((self.GRID, thing), (grid, kept))


if __name__ == "__main__":
    unittest.main()
