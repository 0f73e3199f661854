"""Promise 9.1: rings, own polynomials, own numbers' units, and heights."""

import copy
import random
import time
import unittest
from fractions import Fraction
from itertools import permutations

from tests.signs import (BIG, D, H, M, N, ROOTS, as_pairs, fitting_scale, heighted_grid, in_other_units, multiply,
                         random_numbers, same_rows, told)
from tests.test_determinants import slow_determinant
from tests.test_inverses import NO_SQUARES
from tests.things import as_pair, as_python, deep_list, deep_tuple, fails_with, wrong_fractions, wrong_things
from unitgrids.errors import NoSquare, NotSquare
from unitgrids.grids import Grid
from unitgrids.owns import (is_own_heights, is_ring, is_two_rings, own_heights, own_polynomial, own_verdict, two_rings)
from unitgrids.units import factor, is_unit


def slow_polynomial(rows):
    """By the traces of powers."""
    many = len(rows)
    found, power = [Fraction(1)], same_rows(many)
    for k in range(1, many + 1):
        power = multiply(rows, power)
        found.append(-sum(power[i][i] for i in range(many)) / k)
        power = [[power[i][j] + (found[-1] if i == j else 0) for j in range(many)] for i in range(many)]
    return found


def rings(grid):
    many = len(grid.rows)
    for size in range(1, many + 1):
        for ring in permutations(range(many), size):
            if ring[0] == min(ring) and all(grid.rows[p][q] is not None for p, q in zip(ring, ring[1:] + ring[:1])):
                yield ring


def mean(grid, ring):
    units = [grid.rows[p][q] for p, q in zip(ring, ring[1:] + ring[:1])]
    return tuple(as_pair(sum(as_python(unit[base]) for unit in units) / len(ring)) for base in range(grid.bases))


def slow_verdict(grid):
    found = {mean(grid, ring) for ring in rings(grid)}
    if not found:
        return "nought"
    return found.pop() if len(found) == 1 else None


def random_grids(seed, times):
    chance = random.Random(seed)
    for _ in range(times):
        many = chance.choice((1, 2, 3, 3, 4, 4, 5))
        yield chance, heighted_grid(chance, chance.randint(1, 2), many, chance.choice((0.2, 0.35, 0.6, 1)),
                                    chance.choice((0, 0, 1, 2)), Fraction(chance.randint(-1, 1), chance.choice((1, 2))))


class PolynomialTest(unittest.TestCase):
    def test_by_hand(self):
        self.assertEqual(own_polynomial((((5, 3),),)), ((1, 1), (-5, 3)))
        self.assertEqual(own_polynomial((((0, 1),),)), ((1, 1), (0, 1)))
        self.assertEqual(own_polynomial((((1, 2), (1, 3)), ((3, 1), (-2, 1)))), ((1, 1), (3, 2), (-2, 1)))
        self.assertEqual(own_polynomial(as_pairs([[2, 0, 0], [0, 3, 0], [0, 0, 5]])), ((1, 1), (-10, 1), (31, 1), (-30, 1)))
        self.assertEqual(own_polynomial(as_pairs([[0, 1, 0], [0, 0, 1], [7, 0, 0]])), ((1, 1), (0, 1), (0, 1), (-7, 1)))

    def test_like_traces(self):
        chance = random.Random(221)
        for _ in range(200):
            many = chance.choice((1, 2, 3, 4, 5, 6))
            rows = [[Fraction(chance.choice((0, 0, 1, -1, 2, -3, 7)), chance.randint(1, 4)) for _ in range(many)]
                    for _ in range(many)]
            found = own_polynomial(as_pairs(rows))
            self.assertIsInstance(found, tuple)
            self.assertEqual(found, tuple(as_pair(number) for number in slow_polynomial(rows)))
            x = Fraction(chance.randint(-9, 9), chance.randint(1, 5))
            if many < 5:
                at_x = sum(as_python(number) * x ** (many - k) for k, number in enumerate(found))
                self.assertEqual(at_x, slow_determinant([[x * (i == j) - rows[i][j] for j in range(many)] for i in range(many)]))

    def test_ten_rows_of_great_fractions(self):
        chance = random.Random(222)
        wholes = [[Fraction(chance.randint(-BIG, BIG)) for _ in range(10)] for _ in range(10)]
        self.assertEqual(own_polynomial(as_pairs(wholes)), tuple(as_pair(number) for number in slow_polynomial(wholes)))
        rows = [[Fraction(chance.randint(-BIG, BIG), chance.randint(1, BIG)) for _ in range(10)] for _ in range(10)]
        start = time.perf_counter()
        found = own_polynomial(as_pairs(rows))
        self.assertLess(time.perf_counter() - start, 20)
        self.assertEqual(found[:2], ((1, 1), as_pair(-sum(rows[k][k] for k in range(10)))))
        self.assertEqual(len(found), 11)

    def test_no_square(self):
        wrong = wrong_things() + NO_SQUARES
        for thing in wrong_things() + wrong_fractions():
            wrong += [((thing,),), (((1, 1), (1, 1)), ((1, 1), thing))]
        for numbers in wrong:
            fails_with(self, NoSquare, lambda: own_polynomial(numbers))


class VerdictTest(unittest.TestCase):
    def test_the_fourth_fact(self):
        kinds = {}
        for _, grid in random_grids(223, 500):
            verdict = slow_verdict(grid)
            self.assertEqual(own_verdict(grid), verdict)
            pair = two_rings(grid)
            self.assertIs(pair is None, verdict is not None)
            if pair is not None:
                self.assertIs(is_two_rings(grid, pair), True)
                self.assertTrue(all(ring in list(rings(grid)) for ring in pair))
                self.assertNotEqual(mean(grid, pair[0]), mean(grid, pair[1]))
            heights = own_heights(grid)
            self.assertIs(heights is None, verdict is None)
            if heights is not None:
                self.check_heights(grid, heights)
                self.assertIs(is_own_heights(grid, heights), True)
                if verdict != "nought":
                    self.assertEqual(heights[0], verdict)
            kind = "unit" if isinstance(verdict, tuple) else str(verdict)
            kinds[kind] = kinds.get(kind, 0) + 1
        self.assertGreater(min(kinds[kind] for kind in ("unit", "None", "nought")), 40)

    def check_heights(self, grid, thing):
        unit, heights = thing
        self.assertEqual([type(thing), type(heights), len(heights)], [tuple, tuple, len(grid.rows)])
        self.assertTrue(all(is_unit(grid.bases, one) for one in heights + (unit,)))
        for ring in rings(grid):
            for p, q in zip(ring, ring[1:] + ring[:1]):
                for base in range(grid.bases):
                    self.assertEqual(as_python(heights[p][base]) + as_python(grid.rows[p][q][base]) - as_python(unit[base]),
                                     as_python(heights[q][base]))

    def test_all_own_numbers_are_multiplied(self):
        for chance, grid in random_grids(224, 150):
            verdict = own_verdict(grid)
            scale = fitting_scale(grid) * 5
            numbers = random_numbers(chance, grid)
            before = slow_polynomial(numbers)
            after = slow_polynomial(in_other_units(grid, numbers, scale))
            if verdict == "nought":
                self.assertEqual((before[1:], after[1:]), ([0] * len(grid.rows),) * 2)
            elif verdict is not None:
                by = as_python(factor(verdict, ROOTS[:grid.bases], scale))
                self.assertEqual(after, [number * by ** k for k, number in enumerate(before)])
            else:
                # One factor would make the same of all that are not 0.
                again = random_numbers(chance, grid)
                pairs = [(slow_polynomial(again), slow_polynomial(in_other_units(grid, again, scale))), (before, after)]
                found = {(k, changed[k] / number) for told, changed in pairs for k, number in enumerate(told) if number and k}
                fits = any(all(by == step ** k for k, by in found) for step in [by for k, by in found if k == 1])
                self.assertFalse(fits and any(k == 1 for k, _ in found) and len({k for k, _ in found}) > 1
                                 and len(found) > len({k for k, _ in found}))

    def test_by_hand(self):
        for rows, verdict in ((((M,),), M), (((None,),), "nought"), (((None, M), (None, None)), "nought"),
                              (((None, M), (N, None)), H), (((M, None), (None, M)), M), (((M, None), (None, N)), None),
                              (((M, H), (None, M)), M), (((M, H), (H, M)), None), (((H, M), (N, H)), H),
                              (((None, M, None), (None, None, M), (N, None, None)), ((2, 3),))):
            grid = Grid(1, tuple(tuple(row if row is None else row if isinstance(row[0], tuple) else (row,) for row in line) for line in rows))
            verdict = (verdict,) if isinstance(verdict, tuple) and not isinstance(verdict[0], tuple) else verdict
            self.assertEqual(own_verdict(grid), verdict)

    def test_one_ring_alone(self):
        for many in (1, 2, 5, 10):
            rows = [[None] * many for _ in range(many)]
            for k in range(many):
                rows[k][(k + 1) % many] = M if k == 0 else N
            grid = Grid(1, told(rows))
            self.assertEqual(own_verdict(grid), ((1, many),) if many > 1 else M)
            self.assertIsNone(two_rings(grid))
            self.check_heights(grid, own_heights(grid)) if many < 8 else None
            self.assertIs(is_own_heights(grid, own_heights(grid)), True)
            self.assertIs(is_ring(grid, tuple(range(many))), True)

    def test_no_ring(self):
        grid = Grid(1, tuple(tuple(H if j > i else None for j in range(10)) for i in range(10)))
        self.assertEqual((own_verdict(grid), two_rings(grid)), ("nought", None))
        self.assertIs(is_own_heights(grid, own_heights(grid)), True)
        self.assertIs(is_own_heights(grid, (((7, 9),), tuple(((k, 1),) for k in range(10)))), True)
        self.assertIs(is_own_heights(grid, (((7, 9),), tuple(((k, 1),) for k in range(9)))), False)
        self.assertIs(is_ring(grid, (0, 1)), False)

    def test_ten_full_rows(self):
        chance = random.Random(225)
        grid = heighted_grid(chance, 3, 10, 1, 0, Fraction(1, 2))
        start = time.perf_counter()
        self.assertEqual(own_verdict(grid), ((1, 2),) * 3)
        self.assertIs(is_own_heights(grid, own_heights(grid)), True)
        self.assertIsNone(two_rings(grid))
        rows = [list(row) for row in grid.rows]
        rows[8][3] = ((6, 1),) * 3
        other = Grid(3, told(rows))
        self.assertEqual((own_verdict(other), own_heights(other)), (None, None))
        pair = two_rings(other)
        self.assertIs(is_two_rings(other, pair), True)
        self.assertNotEqual(mean(other, pair[0]), mean(other, pair[1]))
        self.assertIs(is_own_heights(other, own_heights(grid)), False)
        self.assertLess(time.perf_counter() - start, 20)

    def test_rings_apart(self):
        # Two rings that share no place, and a cell between that is on none.
        rows = [[None] * 5 for _ in range(5)]
        rows[0][1], rows[1][0], rows[2][3], rows[3][4], rows[4][2], rows[1][2] = M, N, H, H, H, ((5, 3),)
        grid = Grid(1, told(rows))
        self.assertEqual(own_verdict(grid), H)
        self.check_heights(grid, own_heights(grid))
        rows[4][2] = N
        grid = Grid(1, told(rows))
        self.assertIsNone(own_verdict(grid))
        self.assertEqual(sorted(two_rings(grid)), [(0, 1), (2, 3, 4)])


class JudgedTest(unittest.TestCase):
    GRID = Grid(1, ((M, N, None), (D, N, H), (N, None, None)))

    def test_rings(self):
        grid = self.GRID
        found = [(0,), (1,), (0, 1), (0, 1, 2)]
        self.assertEqual(sorted(rings(grid)), sorted(found))
        for ring in found:
            self.assertIs(is_ring(grid, ring), True)
        wrong = [(2,), (1, 0), (1, 2, 0), (0, 2), (0, 1, 1), (0, 0), (0, 1, 0), (0, 2, 1), (0, 3), (0, -1), (3,), (True,), (0, True),
                 (False, 1), [0, 1], (0, "1"), ("0",), (0, None), ((0,), 1), (0, (1,)), {0: 1}, deep_tuple(0), deep_list(0), (0, [1]),
                 range(2), (10 ** 39,), (0, 1, 2, 0), b"\x00"]
        for thing in wrong_things() + wrong:
            self.assertIs(is_ring(grid, thing), False, thing)
        self.assertIs(is_ring(Grid(1, ((M,),)), (0,)), True)

    def test_two_rings(self):
        grid = self.GRID
        found = [(0,), (1,), (0, 1), (0, 1, 2)]
        for one in found:
            for other in found:
                self.assertIs(is_two_rings(grid, (one, other)), mean(grid, one) != mean(grid, other))
        one, other = (0,), (1,)
        wrong = [(one,), (one, other, other), [one, other], ([0], other), (one, [1]), (one, (1, 0)), (one, (2,)), (one, ()), one,
                 (None, other), (one, None), {0: one, 1: other}, (one, (True,)), (one, deep_tuple(0)), deep_tuple((one, other))]
        wrong += [(one, thing) for thing in wrong_things()]
        for thing in wrong_things() + wrong:
            self.assertIs(is_two_rings(grid, thing), False, thing)

    def test_two_rings_of_unlike_lengths(self):
        grid = Grid(1, ((M, M, N), (M, None, N), (None, None, N)))
        # Unlike weights, but alike for their lengths; and the other way about.
        self.assertIs(is_two_rings(grid, ((0,), (0, 1))), False)
        self.assertIs(is_two_rings(grid, ((0, 1), (0,))), False)
        self.assertIs(is_two_rings(grid, ((0, 1), (2,))), True)
        grid = Grid(1, ((M, H), (H, None)))
        self.assertIs(is_two_rings(grid, ((0,), (0, 1))), True)
        self.assertIs(is_two_rings(grid, ((0, 1), (0,))), True)

    def test_heights(self):
        grid = Grid(1, ((H, M, H), (N, H, None), (None, None, None)))
        one = (H, (N, H, N))
        for thing in (one, (H, (N, H, ((9, 7),))), (H, (D, ((-1, 2),), M))):
            self.assertIs(is_own_heights(grid, thing), True)
        wrong = [(M, (N, H, N)), (H, (N, M, N)), (H, (H, H, N)), (H, (N, H)), (H, (N, H, N, N)), [H, (N, H, N)], (H, [N, H, N]),
                 (H,), one + one, (H, N), (N, one), (None, one[1]), (H, (N, H, None)), (H, (N, H, "nought")), (H + N, one[1]),
                 (H, (N, H, N + N)), {0: H, 1: one[1]}, (H, (N, H, [(0, 1)])), (H, (N, H, ((2, 4),))), (((2, 4),), one[1])]
        for thing in wrong_things() + wrong_fractions():
            wrong += [(thing, one[1]), (H, thing), (H, (N, H, thing)), (H, (N, thing, N))]
            wrong += [(H, (N, H, (thing,)))] if thing != (0, 1) and not (isinstance(thing, tuple) and thing == (0, 1)) else []
        for thing in wrong_things() + wrong + [deep_tuple(one), deep_list(one)]:
            self.assertIs(is_own_heights(grid, thing), False, thing)

    def test_not_square_ahead_of_all(self):
        for rows, columns in ((1, 2), (2, 1), (9, 10), (10, 9)):
            grid = Grid(1, ((M,) * columns,) * rows)
            for call in (own_verdict, own_heights, two_rings):
                fails_with(self, NotSquare, lambda: call(grid))
            for thing in wrong_things() + [(0,), ((0,), (1,))]:
                for call in (is_ring, is_two_rings, is_own_heights):
                    fails_with(self, NotSquare, lambda: call(grid, thing))

    def test_nothing_that_is_passed_is_changed(self):
        grid, thing = copy.deepcopy(self.GRID), [[0], {1: [2]}]
        kept = copy.deepcopy(thing)
        for call in (own_verdict, own_heights, two_rings):
            self.assertEqual(call(self.GRID), call(self.GRID))
        for call in (is_ring, is_two_rings, is_own_heights):
            self.assertIs(call(self.GRID, thing), False)
        self.assertEqual((self.GRID, thing), (grid, kept))


if __name__ == "__main__":
    unittest.main()
