"""Promise 6.4: partings, and their three numbers."""

import copy
import random
import unittest
from fractions import Fraction

from tests import oracle
from tests.things import as_pair, as_python, deep_list, deep_tuple, fails_with, wrong_numbers, wrong_things
from unitgrids.errors import NoCell, NoGrid, NoParting
from unitgrids.grids import Grid
from unitgrids.partings import is_parting, parting, three_numbers
from unitgrids.reckoning import changed, outcome
from unitgrids.scripts import Script

N, M, D, H = ((0, 1),), ((1, 1),), ((-1, 1),), ((1, 2),)
SUM = Script((Grid(1, ((M, N, None),)), Grid(1, ((N, N, N),))), (("plus", 0, 1),))


def slow_numbers(script, cell, base, small):
    """The three outcomes, as Fractions or "endless"."""
    at, i, j = cell
    values = tuple(tuple(tuple((0, 1) if unit is None else (1, small) for unit in row) for row in grid.rows)
                   for grid in script.grids)
    found = []
    for root in (1, 2, 4):
        roots = [(1, 1)] * script.grids[0].bases
        roots[base] = (root, 1)
        found.append(oracle.Outcomes(script, changed(script, values, tuple(roots))).grids[at][i][j])
    return found


def is_parted(numbers):
    return "endless" not in numbers and numbers[0] * numbers[2] > numbers[1] * numbers[1]


class ByHandTest(unittest.TestCase):
    def test_a_sum(self):
        # With small numbers 1 / k the outcome is (root + 1) / k.
        for small in (1, 2, 3, 10, 10 ** 39):
            self.assertIs(is_parting(SUM, 2, 0, 0, (0, small)), True)
            expected = tuple(as_pair(Fraction(root + 1, small)) for root in (1, 2, 4))
            self.assertEqual(three_numbers(SUM, 2, 0, 0, (0, small)), expected)
        self.assertEqual(three_numbers(SUM, 2, 0, 0, (0, 1)), ((2, 1), (3, 1), (5, 1)))
        for small in (0, -1, -10 ** 39):
            self.assertIs(is_parting(SUM, 2, 0, 0, (0, small)), False)
            fails_with(self, NoParting, lambda: three_numbers(SUM, 2, 0, 0, (0, small)))

    def test_with_a_unit_there_is_none(self):
        for cell in ((2, 0, 1), (2, 0, 2), (0, 0, 0), (0, 0, 2), (1, 0, 1)):
            self.assertIsNone(parting(SUM, *cell))
            for pair in ((0, 1), (0, 2), (0, 10 ** 9)):
                self.assertIs(is_parting(SUM, *cell, pair), False)
                fails_with(self, NoParting, lambda: three_numbers(SUM, *cell, pair))

    def test_the_right_base_unit(self):
        for base in range(3):
            one = tuple((1, 1) if at == base else (2, 1) for at in range(3))
            other = ((2, 1),) * 3
            script = Script((Grid(3, ((one,),)), Grid(3, ((other,),))), (("plus", 0, 1),))
            found = parting(script, 2, 0, 0)
            self.assertEqual(found[0], base)
            self.assertIsInstance(found, tuple)
            for place in range(3):
                self.assertIs(is_parting(script, 2, 0, 0, (place, 1)), place == base)
                self.assertIs(is_parting(script, 2, 0, 0, (place, found[1])), place == base)
            self.assertEqual(three_numbers(script, 2, 0, 0, (base, 1)), ((2, 1), (6, 1), (20, 1)))
            for place in (-1, 3, 4):
                self.assertIs(is_parting(script, 2, 0, 0, (place, 1)), False)

    def test_the_scale_is_the_scripts(self):
        script = Script((Grid(1, ((H,),)), Grid(1, ((N,),)), Grid(1, ((((1, 3),),),))), (("plus", 0, 1),))
        self.assertEqual(three_numbers(script, 3, 0, 0, (0, 1)), ((2, 1), (9, 1), (65, 1)))

    def test_endless_outcomes(self):
        # The star of a number x is x / (1 - x): 4 / small must be below 1.
        script = Script((Grid(1, ((M,),)),), (("star", 0),))
        for small in (1, 2, 3, 4):
            self.assertIs(is_parting(script, 1, 0, 0, (0, small)), False)
            fails_with(self, NoParting, lambda: three_numbers(script, 1, 0, 0, (0, small)))
        for small in (5, 6, 100):
            self.assertIs(is_parting(script, 1, 0, 0, (0, small)), True)
        self.assertEqual(three_numbers(script, 1, 0, 0, (0, 5)), ((1, 4), (2, 3), (4, 1)))
        found = parting(script, 1, 0, 0)
        self.assertEqual(found[0], 0)
        self.assertGreaterEqual(found[1], 5)
        # With exponents below 0 it is the outcome with the root 1 that may be endless.
        script = Script((Grid(1, ((D,),)),), (("star", 0),))
        self.assertIs(is_parting(script, 1, 0, 0, (0, 1)), False)
        self.assertIs(is_parting(script, 1, 0, 0, (0, 2)), True)
        self.assertEqual(three_numbers(script, 1, 0, 0, (0, 2)), ((1, 1), (1, 3), (1, 7)))

    def test_only_the_cells_own_outcomes_count(self):
        script = Script((Grid(1, ((M, None), (None, M))), Grid(1, ((N, N), (N, N)))), (("plus", 0, 1), ("star", 0)))
        self.assertIs(is_parting(script, 2, 0, 0, (0, 1)), True)
        self.assertIs(is_parting(script, 3, 0, 0, (0, 1)), False)

    def test_great_exponents(self):
        unit, other = ((6, 1), (-6, 1), (5, 4)), ((-6, 1), (5, 3), (6, 1))
        script = Script((Grid(3, ((unit, other), (other, unit))),), (("star", 0), ("star", 1)))
        for at in (1, 2):
            found = parting(script, at, 0, 1)
            self.assertIs(is_parting(script, at, 0, 1, found), True)
            one, two, four = [as_python(number) for number in three_numbers(script, at, 0, 1, found)]
            self.assertGreater(one * four, two * two)


class AnythingTest(unittest.TestCase):
    def test_no_parting(self):
        wrong = wrong_things() + [(0,), (0, 1, 1), [0, 1], {0: 0, 1: 1}, (False, 1), (0, True), (1, 1), (-1, 1), (0, 0)]
        wrong += [(0, -1), ("0", 1), (0, "1"), (None, 1), (0, None), (0, (1, 1)), ((0,), 1), (0, [1]), (10 ** 40, 1), 1]
        wrong += [deep_tuple((0, 1)), deep_list((0, 1)), (deep_tuple(0), deep_tuple(1)), "01", b"\x00\x01", range(2)]
        for thing in wrong + [(0, thing) for thing in wrong_things()] + [(thing, 1) for thing in wrong_things()]:
            self.assertIs(is_parting(SUM, 2, 0, 0, thing), False, thing)
            fails_with(self, NoParting, lambda: three_numbers(SUM, 2, 0, 0, thing))

    def test_no_grid_no_cell_no_parting(self):
        calls = [lambda *cell: parting(SUM, *cell)]
        for thing in (None, (0, 1), (0, 0)):
            calls.append(lambda *cell, thing=thing: is_parting(SUM, *cell, thing))
            calls.append(lambda *cell, thing=thing: three_numbers(SUM, *cell, thing))
        for call in calls:
            for wrong in wrong_numbers() + [3, 10 ** 40]:
                for i, j in ((0, 0), (wrong, wrong), (9, 9)):
                    fails_with(self, NoGrid, lambda: call(wrong, i, j))
                for at in (0, 2):
                    for i, j in ((wrong, 0), (wrong, wrong), (0, wrong)):
                        fails_with(self, NoCell, lambda: call(at, i, j))

    def test_nothing_that_is_passed_is_changed(self):
        script, thing = copy.deepcopy(SUM), [0, {1: []}]
        kept = copy.deepcopy(thing)
        is_parting(SUM, 2, 0, 0, thing)
        parting(SUM, 2, 0, 0)
        self.assertEqual((SUM, thing), (script, kept))


class AllTest(unittest.TestCase):
    def test_a_parting_just_for_what_has_unlike_ways(self):
        chance = random.Random(81)
        told = {True: 0, False: 0}
        for _ in range(120):
            script = oracle.random_script(chance, chance.randint(0, 5), most=2 if chance.random() < 0.7 else 3,
                                          fill=chance.choice((0.3, 0.6, 1)), plain=chance.random() < 0.8, stars=3)
            units = oracle.Units(script)
            for cell in oracle.all_cells(script):
                found = parting(script, *cell)
                self.assertIs(found is None, units.verdict(*cell) is not None)
                told[found is None] += 1
                if found is not None:
                    self.assertIs(is_parting(script, *cell, found), True)
                    numbers = slow_numbers(script, cell, *found)
                    self.assertTrue(is_parted(numbers))
                    self.assertEqual(three_numbers(script, *cell, found), tuple(as_pair(one) for one in numbers))
        self.assertGreater(min(told.values()), 150)

    def test_judged_like_the_oracle(self):
        chance = random.Random(82)
        told = {True: 0, False: 0}
        for _ in range(60):
            script = oracle.random_script(chance, chance.randint(1, 4), most=2, fill=chance.choice((0.6, 1)))
            cells = list(oracle.all_cells(script))
            for cell in chance.sample(cells, min(6, len(cells))):
                for base in range(script.grids[0].bases):
                    for small in (1, 2, 5, 16, 60):
                        numbers = slow_numbers(script, cell, base, small)
                        found = is_parting(script, *cell, (base, small))
                        self.assertIs(found, is_parted(numbers))
                        told[found] += 1
                        if found:
                            self.assertEqual(three_numbers(script, *cell, (base, small)),
                                             tuple(as_pair(one) for one in numbers))
        self.assertGreater(min(told.values()), 100)

    def test_the_numbers_are_outcomes(self):
        pair = parting(SUM, 2, 0, 0)
        values = ((((1, pair[1]), (1, pair[1]), (0, 1)),), (((1, pair[1]),) * 3,))
        for root, number in zip((1, 2, 4), three_numbers(SUM, 2, 0, 0, pair)):
            self.assertEqual(outcome(SUM, changed(SUM, values, ((root, 1),)), 2)[0][0], number)


if __name__ == "__main__":
    unittest.main()
