"""Promise 4.1: outcomes, exact or endless, and values in other units."""

import copy
import random
import unittest
from fractions import Fraction
from itertools import product

from tests import oracle
from tests.things import (as_pair, as_python, deep_list, deep_tuple, fails_with, wrong_fractions, wrong_numbers,
                          wrong_things)
from unitgrids.grids import Grid, renumbered
from unitgrids.reckoning import changed, outcome
from unitgrids.errors import NoGrid, NoRoots, NoValues
from unitgrids.scripts import Script, bottom_of, many_grids, shape

U = ((1, 1),)
N = ((0, 1),)
ZERO = (0, 1)
ENDLESS = "endless"
BIG = 10 ** 39 + 7


def script_of(values, *steps):
    """A script and values for it, of rows of numbers; a cell is nought where the number is 0."""
    grids = []
    for rows in values:
        grids.append(Grid(1, tuple(tuple(U if number else None for number in row) for row in rows)))
    told = tuple(tuple(tuple(as_pair(Fraction(number)) for number in row) for row in rows) for rows in values)
    return Script(tuple(grids), steps), told


def last(values, *steps):
    """The outcomes of the last grid, as Fractions."""
    script, told = script_of(values, *steps)
    found = outcome(script, told, many_grids(script) - 1)
    return [[one if one == ENDLESS else as_python(one) for one in row] for row in found]


def half(top):
    return Fraction(top, 2)


class OutcomeTest(unittest.TestCase):
    ONE = [[1, half(1)], [0, 3]]
    OTHER = [[half(3), 0], [2, 5]]

    def test_each_step(self):
        grids = (self.ONE, self.OTHER)
        self.assertEqual(last(grids, ("plus", 0, 1)), [[half(5), half(1)], [2, 8]])
        self.assertEqual(last(grids, ("times", 0, 1)), [[half(5), half(5)], [6, 15]])
        self.assertEqual(last(grids, ("times", 1, 0)), [[half(3), Fraction(3, 4)], [2, 16]])
        self.assertEqual(last(grids, ("turned", 0)), [[1, 0], [half(1), 3]])
        self.assertEqual(last(grids, ("beside", 0, 1)), [[1, half(1), half(3), 0], [0, 3, 2, 5]])
        self.assertEqual(last(grids, ("above", 0, 1)), [[1, half(1)], [0, 3], [half(3), 0], [2, 5]])
        self.assertEqual(last(grids, ("piece", 0, 0, 1, 2, 1)), [[half(1)], [3]])
        self.assertEqual(last(grids, ("piece", 1, 1, 0, 1, 2)), [[2, 5]])

    def test_what_is_put_in(self):
        script, values = script_of((self.ONE, self.OTHER), ("plus", 0, 1))
        self.assertEqual([outcome(script, values, at) for at in (0, 1)], list(values))
        plain, told = script_of((self.OTHER,))
        self.assertEqual(outcome(plain, told, 0), told[0])

    def test_shapes_and_kinds(self):
        script, values = script_of(([[1, 2, 3]],), ("turned", 0), ("times", 0, 1), ("times", 1, 0))
        self.assertEqual([outcome(script, values, at) for at in range(4)],
                         [(((1, 1), (2, 1), (3, 1)),), (((1, 1),), ((2, 1),), ((3, 1),)), (((14, 1),),),
                          (((1, 1), (2, 1), (3, 1)), ((2, 1), (4, 1), (6, 1)), ((3, 1), (6, 1), (9, 1)))])

    def test_lowest_terms(self):
        script, values = script_of(([[Fraction(1, 6), Fraction(5, 6)]], [[half(1)], [half(1)]]),
                                   ("times", 0, 1), ("plus", 2, 2), ("beside", 0, 0))
        self.assertEqual([outcome(script, values, at) for at in (2, 3)], [(((1, 2),),), (((1, 1),),)])

    def test_great_numbers(self):
        script, values = script_of(([[Fraction(BIG, 10 ** 39), Fraction(3, BIG)]],),
                                   ("turned", 0), ("times", 0, 1), ("times", 2, 2), ("times", 3, 3))
        expected = (Fraction(BIG, 10 ** 39) ** 2 + Fraction(3, BIG) ** 2) ** 4
        self.assertEqual(outcome(script, values, 4), ((as_pair(expected),),))

    def test_star_of_one(self):
        for value in (Fraction(1, 2), Fraction(1, 3), Fraction(9, 10), Fraction(BIG - 1, BIG), Fraction(1, BIG)):
            self.assertEqual(last(([[value]],), ("star", 0)), [[value / (1 - value)]])
        for value in (Fraction(1), Fraction(BIG + 1, BIG), Fraction(2), Fraction(BIG)):
            self.assertEqual(last(([[value]],), ("star", 0)), [[ENDLESS]])
        self.assertEqual(last(([[0]],), ("star", 0)), [[0]])

    def test_star_of_noughts_and_lines(self):
        self.assertEqual(last(([[0, 5, 0], [0, 0, 7], [0, 0, 0]],), ("star", 0)), [[0, 5, 35], [0, 0, 7], [0, 0, 0]])
        self.assertEqual(last(([[0] * 3] * 3,), ("star", 0)), [[0] * 3] * 3)

    def test_rings_at_the_bound(self):
        self.assertEqual(last(([[0, 2], [half(1), 0]],), ("star", 0)), [[ENDLESS] * 2] * 2)
        just_below = Fraction(BIG - 1, 2 * BIG)
        self.assertEqual(last(([[0, 2], [just_below, 0]],), ("star", 0)),
                         [[BIG - 1, 2 * BIG], [BIG * just_below, BIG - 1]])
        self.assertEqual(last(([[half(1), half(1)], [half(1), half(1)]],), ("star", 0)), [[ENDLESS] * 2] * 2)
        third = Fraction(1, 3)
        self.assertEqual(last(([[third, third], [third, third]],), ("star", 0)), [[1, 1], [1, 1]])

    def test_only_what_is_on_the_paths_counts(self):
        rows = [[half(1), 1, 0], [0, 2, 1], [0, 0, half(1)]]
        self.assertEqual(last((rows,), ("star", 0)),
                         [[1, ENDLESS, ENDLESS], [0, ENDLESS, ENDLESS], [0, 0, 1]])
        rows = [[0, 1, 0], [0, 0, 0], [0, 0, 1]]
        self.assertEqual(last((rows,), ("star", 0)), [[0, 1, 0], [0, 0, 0], [0, 0, ENDLESS]])

    def test_sums_and_products_with_endless_parts(self):
        grids = ([[1, 0], [0, half(1)]], [[0, 0], [5, half(3)]])
        star = [[ENDLESS, 0], [0, 1]]
        self.assertEqual(last(grids, ("star", 0)), star)
        self.assertEqual(last(grids, ("star", 0), ("plus", 2, 1)), [[ENDLESS, 0], [5, half(5)]])
        self.assertEqual(last(grids, ("star", 0), ("plus", 0, 2)), [[ENDLESS, 0], [0, half(3)]])
        self.assertEqual(last(grids, ("star", 0), ("plus", 2, 2)), [[ENDLESS, 0], [0, 2]])
        # 0 times endless is 0, each other number times endless is endless.
        self.assertEqual(last(grids, ("star", 0), ("times", 2, 1)), [[0, 0], [5, half(3)]])
        self.assertEqual(last(grids, ("star", 0), ("times", 1, 2)), [[0, 0], [ENDLESS, half(3)]])
        self.assertEqual(last(grids, ("star", 0), ("times", 2, 2)), [[ENDLESS, 0], [0, 1]])
        self.assertEqual(last(grids, ("star", 0), ("piece", 2, 0, 0, 1, 1)), [[ENDLESS]])
        self.assertEqual(last(grids, ("star", 0), ("turned", 2)), star)
        self.assertEqual(last(grids, ("star", 0), ("beside", 2, 1)), [[ENDLESS, 0, 0, 0], [0, 1, 5, half(3)]])
        self.assertEqual(last(grids, ("star", 0), ("above", 1, 2)), grids[1] + star)

    def test_stars_of_stars(self):
        self.assertEqual(last(([[Fraction(1, 3)]],), ("star", 0), ("star", 1)), [[1]])
        self.assertEqual(last(([[half(1)]],), ("star", 0), ("star", 1)), [[ENDLESS]])
        self.assertEqual(last(([[Fraction(1, 4)]],), ("star", 0), ("star", 1), ("star", 2)), [[1]])
        # An endless cell spoils just what paths through it lead to.
        rows = [[0, 1, 0, 0], [0, 1, 0, 0], [0, 0, 0, Fraction(1, 4)], [0, 0, 0, 0]]
        star = [[0, ENDLESS, 0, 0], [0, ENDLESS, 0, 0], [0, 0, 0, Fraction(1, 4)], [0, 0, 0, 0]]
        self.assertEqual(last((rows,), ("star", 0)), star)
        self.assertEqual(last((rows,), ("star", 0), ("star", 1)), star)
        rows = [[0, half(1), 0], [0, half(1), half(1)], [0, 0, 0]]
        self.assertEqual(last((rows,), ("star", 0), ("star", 1)),
                         [[0, ENDLESS, ENDLESS], [0, ENDLESS, ENDLESS], [0, 0, 0]])

    def test_stars_of_twelve(self):
        line = [[0] * 6 for _ in range(6)]
        for k in range(5):
            line[k][k + 1] = 2
        twice = [row + row for row in line] * 2
        found = last((line,), ("beside", 0, 0), ("above", 1, 1), ("star", 2))
        expected = oracle.inverse([[Fraction(int(p == q) - twice[p][q]) for q in range(12)] for p in range(12)])
        self.assertEqual(found, [[expected[p][q] - int(p == q) for q in range(12)] for p in range(12)])

    def test_like_the_inverse(self):
        chance = random.Random(41)
        endless = 0
        for most in (2, 3, 9, 60) * 60:
            script = oracle.random_script(chance, chance.randint(1, 5), most=chance.choice((1, 2, 3)),
                                          fill=chance.choice((0.3, 0.6, 1)))
            values = oracle.random_values(chance, script, most)
            slow = oracle.Outcomes(script, values)
            for at in range(many_grids(script)):
                found = outcome(script, values, at)
                self.assertEqual(found, slow.told(at))
                self.assertIsInstance(found, tuple)
                endless += sum(row.count(ENDLESS) for row in found)
        self.assertGreater(endless, 100)

    def test_finite_sums_are_the_sums_of_the_ways(self):
        chance = random.Random(42)
        seen = 0
        while seen < 40:
            script = oracle.random_script(chance, 3, most=2, stars=0)
            ways = oracle.Ways(script)
            values = oracle.random_values(chance, script)
            for at, i, j in oracle.all_cells(script):
                # Without a star no way is longer than 2 to the power of how many steps there are.
                lists = [ways.of(at, i, j, length) for length in range(9)]
                total = sum(ways.worth(at, i, j, way, values) for found in lists for way in found)
                self.assertEqual(as_python(outcome(script, values, at)[i][j]), total)
                seen += 1

    def test_stars_are_the_limits_of_the_sums_of_the_ways(self):
        script, values = script_of(([[Fraction(1, 4), Fraction(1, 8)], [Fraction(1, 9), 0]],), ("star", 0))
        ways = oracle.Ways(script)
        for i, j in product(range(2), repeat=2):
            total = as_python(outcome(script, values, 1)[i][j])
            part = Fraction(0)
            for length in range(1, 11):
                part += sum(ways.worth(1, i, j, way, values) for way in ways.of(1, i, j, length))
                self.assertLess(part, total)
            self.assertLess(total - part, Fraction(1, 10 ** 4))


class ValuesTest(unittest.TestCase):
    SCRIPT, VALUES = script_of(([[1, 0], [half(1), 2]], [[3, 4]]), ("times", 1, 0))

    def wrong_values(self):
        one, other = self.VALUES
        wrong = wrong_things() + [self.VALUES[:1], self.VALUES + (other,), (other, one), (one, one), list(self.VALUES)]
        wrong += [dict(enumerate(self.VALUES)), (list(one), other), (one, [list(other[0])]), self.SCRIPT.grids]
        for thing in wrong_things() + wrong_fractions():
            wrong += [(thing, other), (one, thing), (thing, thing), (one, (thing,)), (one, ((thing, (4, 1)),)),
                      (((thing, ZERO), one[1]), other)]
        for number in (ZERO, (-1, 1), (-3, 2), (-BIG, 1), ENDLESS):
            wrong += [(one, (((3, 1), number),)), (((number, ZERO), one[1]), other), ((one[0], (number, (2, 1))), other)]
        for number in ((1, 1), (1, 2), (-1, 1), ENDLESS, None):
            wrong.append(((((1, 1), number), one[1]), other))
        wrong += [((one[0],), other), ((one[0], one[1], one[1]), other), (((1, 1), ZERO), other), deep_tuple(self.VALUES)]
        wrong += [deep_list(self.VALUES), ((one[0], (half(1), (2, 1))), other)]
        return wrong

    def test_wrong_values(self):
        for thing in self.wrong_values():
            for at in (0, 2, 3, -1, None):
                fails_with(self, NoValues, lambda: outcome(self.SCRIPT, thing, at))
            for roots in (((1, 1),), ((0, 1),), None):
                fails_with(self, NoValues, lambda: changed(self.SCRIPT, thing, roots))

    def test_no_grid(self):
        for at in wrong_numbers() + [3, 4, BIG]:
            fails_with(self, NoGrid, lambda: outcome(self.SCRIPT, self.VALUES, at))

    def test_no_roots(self):
        wrong = wrong_things() + wrong_fractions()
        wrong += [(thing,) for thing in wrong_fractions() + [(0, 1), (-1, 1), (-2, 3)]]
        wrong += [((1, 1), (1, 1)), [(1, 1)], ((1, 1), 1), {0: (1, 1)}, (1, 1), ([1, 1],), deep_tuple((1, 1))]
        empty = Script((Grid(1, ((None,),)),), ())
        for roots in wrong:
            fails_with(self, NoRoots, lambda: changed(self.SCRIPT, self.VALUES, roots))
            fails_with(self, NoRoots, lambda: changed(empty, ((((0, 1),),),), roots))

    def test_nothing_that_is_passed_is_changed(self):
        kept = copy.deepcopy((self.SCRIPT, self.VALUES))
        outcome(self.SCRIPT, self.VALUES, 2)
        changed(self.SCRIPT, self.VALUES, ((2, 1),))
        for thing in ([list(part) for part in self.VALUES], {0: [(1, 1)]}):
            before = copy.deepcopy(thing)
            fails_with(self, NoValues, lambda: outcome(self.SCRIPT, thing, 0))
            fails_with(self, NoRoots, lambda: changed(self.SCRIPT, self.VALUES, thing))
            self.assertEqual(thing, before)
        self.assertEqual((self.SCRIPT, self.VALUES), kept)


class ChangedTest(unittest.TestCase):
    def test_the_scale_is_the_scripts(self):
        grids = (Grid(1, ((((1, 2),), None),)), Grid(1, ((((1, 3),),),)), Grid(1, ((((-1, 1),),),)))
        values = ((((1, 1), ZERO),), (((5, 1),),), (((7, 2),),))
        script = Script(grids, (("turned", 0),))
        self.assertEqual(bottom_of(script), 6)
        self.assertEqual(changed(script, values, ((2, 1),)), ((((8, 1), ZERO),), (((20, 1),),), (((7, 128),),)))
        self.assertEqual(changed(script, values, ((1, 3),)),
                         ((((1, 27), ZERO),), (((5, 9),),), (((7 * 729, 2),),)))
        self.assertEqual(changed(script, values, ((1, 1),)), values)
        self.assertEqual(renumbered(grids[0], values[0], ((2, 1),)), (((2, 1), ZERO),))

    def test_each_root_by_its_own_exponent(self):
        grid = Grid(3, ((((1, 1), (-2, 1), (0, 1)), ((0, 1), (0, 1), (3, 1))),))
        script = Script((grid,), ())
        found = changed(script, ((((1, 1), (2, 1)),),), ((2, 1), (3, 1), (1, 5)))
        self.assertEqual(found, ((((2, 9), (2, 125)),),))

    def test_changed_back(self):
        chance = random.Random(43)
        for _ in range(60):
            script = oracle.random_script(chance, 0, grids=4, plain=False)
            values = oracle.random_values(chance, script)
            roots = tuple(as_pair(Fraction(chance.randint(1, 9), chance.randint(1, 9)))
                          for _ in range(script.grids[0].bases))
            found = changed(script, values, roots)
            scale = bottom_of(script)
            for grid, part, told in zip(script.grids, values, found):
                for row, numbers, line in zip(grid.rows, part, told):
                    for unit, number, new in zip(row, numbers, line):
                        expected = as_python(number)
                        for exponent, root in zip(unit or (), roots):
                            expected *= as_python(root) ** int(as_python(exponent) * scale)
                        self.assertEqual(new, as_pair(expected))
            self.assertEqual(changed(script, found, tuple((below, top) for top, below in roots)), values)

    def test_what_has_a_unit_is_changed_by_its_factor(self):
        chance = random.Random(44)
        tested = 0
        for _ in range(150):
            script = oracle.random_script(chance, 4, most=2)
            units = oracle.Units(script)
            values = oracle.random_values(chance, script, 5)
            roots = ((2, 1), (3, 1), (5, 1))[:script.grids[0].bases]
            new = changed(script, values, roots)
            for at in range(many_grids(script)):
                pairs = [list(zip(*rows)) for rows in zip(outcome(script, values, at), outcome(script, new, at))]
                for i, j in product(*[range(many) for many in shape(script, at)]):
                    unit = units.verdict(at, i, j)
                    one, other = pairs[i][j]
                    if isinstance(unit, tuple):
                        tested += 1
                        by = Fraction(1)
                        for exponent, root in zip(unit, roots):
                            by *= as_python(root) ** int(as_python(exponent))
                        if ENDLESS in (one, other):
                            self.assertEqual(one, other)
                        else:
                            self.assertEqual(as_python(one) * by, as_python(other))
        self.assertGreater(tested, 200)


if __name__ == "__main__":
    unittest.main()
