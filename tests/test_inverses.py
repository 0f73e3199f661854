"""Promises 8.1 and 8.2: inverses, solutions, their verdicts, and walks."""

import copy
import random
import time
import unittest
from fractions import Fraction
from itertools import permutations

from tests import oracle
from tests.signs import (BIG, D, H, M, N, ROOTS, as_fractions, as_pairs, fitting_scale, heighted_grid, in_other_units,
                         multiply, random_numbers, same_rows, told)
from tests.test_determinants import sided_grid
from tests.things import (as_pair, as_python, deep_list, deep_tuple, fails_with, wrong_fractions, wrong_numbers,
                          wrong_things)
from unitgrids.errors import NoCell, NoPlacing, NoRight, NoSquare, NotSquare
from unitgrids.grids import Grid
from unitgrids.inverses import (inverse, inverse_verdicts, inverse_walks, is_inverse_walks, solution,
                                solution_verdicts)
from unitgrids.placings import least_placing
from unitgrids.units import factor

ONE = (1, 1)
NO_SQUARES = [((ONE, ONE),), ((ONE,), (ONE,)), (ONE, ONE), ((ONE, ONE), (ONE,)), [(ONE,)], ([ONE],), ((ONE,) * 11,) * 11,
              ((ONE,) * 10,) * 11, ((ONE, ONE), [ONE, ONE]), ((ONE, ONE), None), ((), ()), (("endless",),),
              {0: (ONE,)}, deep_tuple(ONE), deep_list(ONE)]


def placings(grid):
    return [columns for columns in permutations(range(len(grid.rows)))
            if all(grid.rows[i][column] is not None for i, column in enumerate(columns))]


def exponents(unit):
    return [as_python(exponent) for exponent in unit]


def walks(grid, placing, start, most):
    """All pairs of a walk of at most so many rows from a row and what it weighs."""
    found = [((start,), (Fraction(0),) * grid.bases)]
    for walk, weight in found:
        if len(walk) < most:
            p = walk[-1]
            for q in range(len(grid.rows)):
                unit = grid.rows[p][placing[q]]
                if q != p and unit is not None:
                    more = zip(weight, exponents(unit), exponents(grid.rows[q][placing[q]]))
                    found.append((walk + (q,), tuple(one + other - less for one, other, less in more)))
    return found


def verdict_by_walks(grid, placing, i, j):
    start = placing.index(i)
    weights = {weight for walk, weight in walks(grid, placing, start, 2 * len(grid.rows)) if walk[-1] == j}
    if not weights:
        return "nought"
    if len(weights) > 1:
        return None
    return tuple(as_pair(one - less) for one, less in zip(weights.pop(), exponents(grid.rows[start][i])))


def verdict_by_numbers(cells, others, grid, scale):
    """Of what a cell was with some numbers, and with them in other units: "nought", None or its factor."""
    if all(cell == 0 for cell in cells):
        return "nought"
    factors = {other / cell if cell != 0 else "none" for cell, other in zip(cells, others)}
    return factors.pop() if len(factors) == 1 else None


class InverseTest(unittest.TestCase):
    def test_by_hand(self):
        self.assertEqual(inverse((((2, 3),),)), (((3, 2),),))
        self.assertEqual(inverse((((-2, 1),),)), (((-1, 2),),))
        self.assertIsNone(inverse((((0, 1),),)))
        self.assertEqual(inverse((((1, 1), (2, 1)), ((3, 1), (4, 1)))), (((-2, 1), (1, 1)), ((3, 2), (-1, 2))))
        self.assertEqual(inverse((((0, 1), (2, 1)), ((1, 1), (0, 1)))), (((0, 1), (1, 1)), ((1, 2), (0, 1))))
        self.assertIsNone(inverse((((1, 1), (2, 1)), ((1, 2), (1, 1)))))

    def test_like_fractions(self):
        chance = random.Random(211)
        none = 0
        for _ in range(300):
            many = chance.choice((1, 2, 3, 4, 5))
            rows = [[Fraction(chance.choice((0, 0, 1, -1, 2, -3, 7)), chance.randint(1, 4)) for _ in range(many)]
                    for _ in range(many)]
            expected = oracle.inverse(rows)
            none += expected is None
            found = inverse(as_pairs(rows))
            self.assertEqual(found, None if expected is None else as_pairs(expected))
            side = [Fraction(chance.randint(-5, 5), chance.randint(1, 5)) for _ in range(many)]
            found = solution(as_pairs(rows), tuple(as_pair(number) for number in side))
            if expected is None:
                self.assertIsNone(found)
            else:
                self.assertEqual(found, tuple(as_pair(sum(one * other for one, other in zip(row, side))) for row in expected))
        self.assertGreater(none, 30)

    def test_ten_rows_of_great_fractions(self):
        chance = random.Random(212)
        rows = [[Fraction(chance.randint(-BIG, BIG), chance.randint(1, BIG)) for _ in range(10)] for _ in range(10)]
        start = time.perf_counter()
        found = inverse(as_pairs(rows))
        one = solution(as_pairs(rows), ((1, 1),) + ((0, 1),) * 9)
        self.assertLess(time.perf_counter() - start, 20)
        self.assertEqual(multiply(rows, as_fractions(found)), same_rows(10))
        self.assertEqual(one, tuple(row[0] for row in found))
        self.assertIsNone(inverse(as_pairs(rows[:9] + [rows[0]])))

    def test_all_orders_of_rows(self):
        for columns in permutations(range(4)):
            rows = [[int(column == j) for j in range(4)] for column in columns]
            turned = [list(column) for column in zip(*rows)]
            self.assertEqual(inverse(as_pairs(rows)), as_pairs(turned))

    def test_no_square(self):
        wrong = wrong_things() + NO_SQUARES + [Grid(1, ((M,),))]
        for thing in wrong_things() + wrong_fractions():
            wrong += [((thing,),), ((ONE, ONE), (ONE, thing)), (thing, (ONE, ONE))]
        for numbers in wrong:
            fails_with(self, NoSquare, lambda: inverse(numbers))
            fails_with(self, NoSquare, lambda: solution(numbers, (ONE,)))
            fails_with(self, NoSquare, lambda: solution(numbers, None))

    def test_no_right(self):
        numbers = ((ONE, (0, 1)), ((0, 1), ONE))
        wrong = wrong_things() + [(ONE,), (ONE,) * 3, [ONE, ONE], ((ONE,), (ONE,)), {0: ONE, 1: ONE}, deep_tuple(ONE)]
        for thing in wrong_things() + wrong_fractions():
            wrong += [(thing, ONE), (ONE, thing)]
        for right in wrong:
            fails_with(self, NoRight, lambda: solution(numbers, right))
            fails_with(self, NoRight, lambda: solution((((0, 1), (0, 1)), (ONE, ONE)), right))
        self.assertEqual(solution(numbers, ((5, 7), (-1, 2))), ((5, 7), (-1, 2)))
        self.assertIsNone(solution((((0, 1), (0, 1)), (ONE, ONE)), (ONE, ONE)))
        # With equations that agree there are many solutions, and not just one.
        self.assertIsNone(solution(((ONE, ONE), (ONE, ONE)), (ONE, ONE)))
        self.assertEqual(solution((((2, 1),),), ((0, 1),)), ((0, 1),))


class VerdictsTest(unittest.TestCase):
    def check(self, grid, chance):
        found = inverse_verdicts(grid)
        self.assertEqual([type(found)] + [type(row) for row in found], [tuple] * (len(grid.rows) + 1))
        scale = fitting_scale(grid)
        samples, changed = [], []
        while len(samples) < 3:
            numbers = random_numbers(chance, grid)
            one = oracle.inverse(numbers)
            if one is not None:
                samples.append(one)
                changed.append(oracle.inverse(in_other_units(grid, numbers, scale)))
        told = {}
        for i, row in enumerate(found):
            for j, verdict in enumerate(row):
                kind = verdict_by_numbers([one[i][j] for one in samples], [one[i][j] for one in changed], grid, scale)
                if isinstance(verdict, tuple):
                    self.assertEqual(kind, as_python(factor(verdict, ROOTS[:grid.bases], scale)))
                else:
                    self.assertEqual(verdict, kind)
                name = "unit" if isinstance(verdict, tuple) else str(verdict)
                told[name] = told.get(name, 0) + 1
        return told

    def test_what_has_a_unit_is_multiplied_by_its_factor(self):
        chance = random.Random(213)
        totals = {}
        for _ in range(150):
            many = chance.choice((1, 2, 3, 4, 4))
            grid = sided_grid(chance, chance.randint(1, 3), many, chance.choice((0.4, 0.6, 0.8, 1)), chance.choice((0, 0, 1, 2)))
            if placings(grid):
                for name, times in self.check(grid, chance).items():
                    totals[name] = totals.get(name, 0) + times
        self.assertGreater(min(totals[name] for name in ("unit", "None", "nought")), 80)

    def test_the_third_fact(self):
        chance = random.Random(214)
        for _ in range(60):
            many = chance.choice((1, 2, 3, 3))
            grid = sided_grid(chance, chance.randint(1, 2), many, chance.choice((0.5, 0.8)), chance.choice((0, 1, 2)))
            found = placings(grid)
            if not found:
                continue
            verdicts = inverse_verdicts(grid)
            for placing in found:
                for i in range(many):
                    for j in range(many):
                        self.assertEqual(verdicts[i][j], verdict_by_walks(grid, placing, i, j))

    def test_walks_are_found_where_there_is_no_unit(self):
        chance = random.Random(215)
        unlike = 0
        for _ in range(200):
            many = chance.choice((1, 2, 3, 4, 5, 6))
            grid = sided_grid(chance, chance.randint(1, 2), many, chance.choice((0.4, 0.8)), chance.choice((0, 1, 2)))
            if least_placing(grid) is None:
                continue
            verdicts = inverse_verdicts(grid)
            for i in range(many):
                for j in range(many):
                    thing = inverse_walks(grid, i, j)
                    self.assertIs(thing is None, verdicts[i][j] is not None)
                    if thing is not None:
                        unlike += 1
                        self.assertIs(is_inverse_walks(grid, i, j, thing), True)
                        self.check_walks(grid, i, j, thing)
        self.assertGreater(unlike, 100)

    def check_walks(self, grid, i, j, thing):
        placing, one, other = thing
        self.assertIn(placing, placings(grid) if len(grid.rows) < 6 else [placing])
        weights = []
        for walk in (one, other):
            self.assertEqual((placing[walk[0]], walk[-1]), (i, j))
            weight = [Fraction(0)] * grid.bases
            for p, q in zip(walk, walk[1:]):
                self.assertNotEqual(p, q)
                more = zip(weight, exponents(grid.rows[p][placing[q]]), exponents(grid.rows[q][placing[q]]))
                weight = [was + there - less for was, there, less in more]
            weights.append(weight)
        self.assertNotEqual(*weights)

    def test_one_row(self):
        self.assertEqual(inverse_verdicts(Grid(1, ((M,),))), ((D,),))
        self.assertIsNone(inverse_walks(Grid(1, ((M,),)), 0, 0))
        self.assertIs(is_inverse_walks(Grid(1, ((M,),)), 0, 0, ((0,), (0,), (0,))), False)
        fails_with(self, NoPlacing, lambda: inverse_verdicts(Grid(1, ((None,),))))

    def test_ten_full_rows(self):
        chance = random.Random(216)
        grid = sided_grid(chance, 3, 10, 1)
        start = time.perf_counter()
        found = inverse_verdicts(grid)
        # With sides the inverse's units are those of its columns and rows, taken away.
        for i in range(10):
            for j in range(10):
                self.assertEqual(found[i][j], tuple(as_pair(-as_python(one)) for one in grid.rows[j][i]))
        rows = [list(row) for row in grid.rows]
        rows[3][4] = ((6, 1), (6, 1), (-6, 1))
        other = Grid(3, told(rows))
        found = inverse_verdicts(other)
        for i in range(10):
            for j in range(10):
                # Only without row 3, or without column 4, a minor has a unit; the determinant has none.
                self.assertIsNone(found[i][j])
                self.assertIs(is_inverse_walks(other, i, j, inverse_walks(other, i, j)), True)
        self.assertLess(time.perf_counter() - start, 30)

    def test_solutions_like_numbers(self):
        chance = random.Random(217)
        totals = {}
        for _ in range(150):
            many = chance.choice((1, 2, 3, 4))
            grid = sided_grid(chance, 2, many, chance.choice((0.4, 0.6, 1)), chance.choice((0, 0, 1)))
            if not placings(grid):
                continue
            base = [row[chance.randrange(many)] for row in grid.rows]
            right = tuple(None if chance.random() < 0.4 else base[j] if chance.random() < 0.8 else ((1, 3), (0, 1)) for j in range(many))
            found = solution_verdicts(grid, right)
            self.assertIsInstance(found, tuple)
            scale = fitting_scale(grid)
            samples, changed = [], []
            while len(samples) < 3:
                numbers = random_numbers(chance, grid)
                if oracle.inverse(numbers) is not None:
                    side = [Fraction(0) if unit is None else Fraction(chance.choice((-1, 1)) * chance.randint(1, 50)) for unit in right]
                    new = [one if unit is None else one * as_python(factor(unit, ROOTS[:2], scale)) for unit, one in zip(right, side)]
                    samples.append(multiply(oracle.inverse(numbers), [[one] for one in side]))
                    changed.append(multiply(oracle.inverse(in_other_units(grid, numbers, scale)), [[one] for one in new]))
            for i, verdict in enumerate(found):
                kind = verdict_by_numbers([one[i][0] for one in samples], [one[i][0] for one in changed], grid, scale)
                if isinstance(verdict, tuple):
                    self.assertEqual(kind, as_python(factor(verdict, ROOTS[:2], scale)))
                else:
                    self.assertEqual(verdict, kind)
                name = "unit" if isinstance(verdict, tuple) else str(verdict)
                totals[name] = totals.get(name, 0) + 1
        self.assertGreater(min(totals[name] for name in ("unit", "None", "nought")), 20)

    def test_right_sides(self):
        grid = Grid(1, ((M, N), (None, H)))
        # The second row alone tells of the second unknown.
        self.assertEqual(solution_verdicts(grid, (None, None)), ("nought", "nought"))
        self.assertEqual(solution_verdicts(grid, (M, None)), (N, "nought"))
        self.assertEqual(solution_verdicts(grid, (None, ((1, 3),))), (((-7, 6),), ((-1, 6),)))
        self.assertEqual(solution_verdicts(grid, (((-1, 6 - 2),), H)), (None, N))
        self.assertEqual(solution_verdicts(grid, (N, H)), (D, N))
        self.assertEqual(solution_verdicts(Grid(1, ((H,),)), (((1, 3),),)), (((-1, 6),),))

    def test_solution_errors_in_their_order(self):
        grid = Grid(2, ((((1, 1), (0, 1)), None), (None, ((0, 1), (0, 1)))))
        bad = Grid(2, ((None, None), (None, None)))
        unit = ((1, 1), (0, 1))
        wrong = wrong_things() + [(unit,), (unit,) * 3, [unit, unit], (unit, "nought"), (unit, N), (unit, unit + ((0, 1),)),
                                  (unit, ((7, 1), (0, 1))), (unit, ((1, 5), (0, 1))), (unit, ((2, 4), (0, 1))), (unit, 0),
                                  (unit, [(0, 1), (0, 1)]), {0: unit, 1: unit}, (unit, (unit,)), (True, unit)]
        for thing in wrong_things() + wrong_fractions():
            if thing is not None:
                wrong += [(thing, unit), (unit, thing)]
            wrong += [(unit, (thing, (0, 1)))] if thing != (0, 1) else []
        for right in wrong:
            fails_with(self, NoRight, lambda: solution_verdicts(grid, right))
            fails_with(self, NoRight, lambda: solution_verdicts(bad, right))
            fails_with(self, NotSquare, lambda: solution_verdicts(Grid(2, ((unit,), (unit,))), right))
        fails_with(self, NoPlacing, lambda: solution_verdicts(bad, (unit, None)))
        fails_with(self, NotSquare, lambda: solution_verdicts(Grid(2, ((unit, unit),)), (unit,)))
        self.assertEqual(solution_verdicts(grid, (unit, None)), (((0, 1), (0, 1)), "nought"))


class WalksTest(unittest.TestCase):
    GRID = Grid(1, ((M, N, None), (N, N, D), (None, D, H)))

    def test_any_placing_and_walks_of_any_length(self):
        chance = random.Random(218)
        grid = Grid(1, ((M, N, H), (N, N, D), (None, D, H)))
        right = wrong = 0
        for placing in permutations(range(3)):
            for _ in range(150):
                i, j = chance.randrange(3), chance.randrange(3)
                pair = []
                for _ in range(2):
                    walk = [placing.index(i)]
                    for _ in range(chance.randint(0, 4)):
                        walk.append(chance.choice([q for q in range(3) if q != walk[-1] or chance.random() < 0.02]))
                    pair.append(tuple(walk[chance.random() < 0.1:] + [j] * (walk[-1] != j and chance.random() < 0.9)))
                thing = (placing,) + tuple(pair)
                expected = self.is_right(grid, i, j, thing)
                right, wrong = right + expected, wrong + (not expected)
                self.assertIs(is_inverse_walks(grid, i, j, thing), expected, (i, j, thing))
        self.assertGreater(min(right, wrong), 30)

    def is_right(self, grid, i, j, thing):
        placing, weights = thing[0], []
        if any(grid.rows[p][placing[p]] is None for p in range(3)):
            return False
        for walk in thing[1:]:
            if not walk or placing[walk[0]] != i or walk[-1] != j:
                return False
            weight = Fraction(0)
            for p, q in zip(walk, walk[1:]):
                if p == q or grid.rows[p][placing[q]] is None:
                    return False
                weight += as_python(grid.rows[p][placing[q]][0]) - as_python(grid.rows[q][placing[q]][0])
            weights.append(weight)
        return weights[0] != weights[1]

    def test_long_walks(self):
        grid = Grid(1, ((M, N), (N, N)))
        thing = ((0, 1), (0,), (0, 1) * 3000 + (0,))
        self.assertIs(is_inverse_walks(grid, 0, 0, thing), True)
        self.assertIs(is_inverse_walks(grid, 0, 0, ((0, 1), thing[2], thing[2])), False)

    def test_what_is_no_pair_of_walks(self):
        grid = Grid(1, ((M, N), (N, N)))
        one, other = (0,), (0, 1, 0)
        self.assertIs(is_inverse_walks(grid, 0, 0, ((0, 1), one, other)), True)
        self.assertIs(is_inverse_walks(grid, 0, 0, ((0, 1), other, one)), True)
        self.assertIs(is_inverse_walks(grid, 0, 1, ((1, 0), (1,), (1, 0, 1))), True)
        self.assertIs(is_inverse_walks(grid, 0, 0, ((1, 0), (1,), (1, 0, 1))), False)
        wrong = [((0, 1), one), ((0, 1), one, other, other), [(0, 1), one, other], ([0, 1], one, other), ((0, 1), [0], other),
                 ((0, 1), one, [0, 1, 0]), ((0, 1), (), other), ((0, 1), one, (0, 0)), ((0, 1), one, (0, 1)), ((0, 1), one, (1, 0)),
                 ((0, 0), one, other), ((0,), one, other), ((0, 1, 2), one, other), ((0, True), one, other), ((False, 1), one, other),
                 ((0, 1), (False,), other), ((0, 1), one, (0, True, 0)), ((0, 1), one, (0, 2, 0)), ((0, 1), one, (0, -1, 0)),
                 ((0, 1), one, one), (None, one, other), ((0, 1), None, other), {0: (0, 1), 1: one, 2: other},
                 ((0, 1), one, (0, "1", 0)), ((0, 1), one, (0, (1,), 0)), ((0, 1), one, deep_tuple(0)), deep_list((0, 1))]
        wrong += [((0, 1), one, thing) for thing in wrong_things()] + [(thing, one, other) for thing in wrong_things()]
        for thing in wrong_things() + wrong:
            self.assertIs(is_inverse_walks(grid, 0, 0, thing), False, thing)

    def test_errors_in_their_order(self):
        square, empty, wide = Grid(1, ((M, N), (N, N))), Grid(1, ((M, None), (N, None))), Grid(1, ((M, N),))
        things = wrong_things() + [((0, 1), (0,), (0, 1, 0))]
        for place in wrong_numbers() + [2, 10 ** 39]:
            for i, j in ((place, 0), (0, place), (place, place)):
                fails_with(self, NoCell, lambda: inverse_walks(square, i, j))
                fails_with(self, NoPlacing, lambda: inverse_walks(empty, i, j))
                fails_with(self, NotSquare, lambda: inverse_walks(wide, i, j))
                fails_with(self, NoCell, lambda: is_inverse_walks(square, i, j, things[-1]))
                fails_with(self, NoPlacing, lambda: is_inverse_walks(empty, i, j, None))
                fails_with(self, NotSquare, lambda: is_inverse_walks(wide, i, j, None))
        for thing in things:
            fails_with(self, NotSquare, lambda: is_inverse_walks(wide, 0, 0, thing))
            fails_with(self, NoPlacing, lambda: is_inverse_walks(empty, 0, 0, thing))
            fails_with(self, NoCell, lambda: is_inverse_walks(square, 0, 2, thing))
        fails_with(self, NotSquare, lambda: inverse_verdicts(wide))
        fails_with(self, NoPlacing, lambda: inverse_verdicts(empty))

    def test_nothing_that_is_passed_is_changed(self):
        grid, thing = copy.deepcopy(self.GRID), [[0, 1], {0: [1]}]
        kept = copy.deepcopy(thing)
        for call in (inverse_verdicts, lambda told: inverse_walks(told, 0, 1), lambda told: solution_verdicts(told, (N, N, N))):
            self.assertEqual(call(self.GRID), call(self.GRID))
        is_inverse_walks(self.GRID, 0, 0, thing)
        fails_with(self, NoSquare, lambda: inverse(thing))
        fails_with(self, NoRight, lambda: solution_verdicts(self.GRID, thing))
        self.assertEqual((self.GRID, thing), (grid, kept))

    def test_heights_told_of_all_walks(self):
        # With heights, all walks from a row to another one weigh alike.
        grid = heighted_grid(random.Random(219), 2, 7, 1)
        self.assertNotIn(None, [verdict for row in inverse_verdicts(grid) for verdict in row])


if __name__ == "__main__":
    unittest.main()
