"""Promises 1.1, 1.2, and 0.2 to 0.5 as far as they touch units."""

import copy
import unittest
from fractions import Fraction
from itertools import product
from math import prod

from tests.things import as_pair, as_python, deep_tuple, wrong_fractions, wrong_things
from unitgrids.errors import NoFraction, NoRoots, NoScale, NoUnit, OtherBases
from unitgrids.grids import Grid
from unitgrids.units import by_unit, factor, is_unit, power_unit, times_unit

N = ((0, 1), (0, 1))
M = ((1, 1), (0, 1))
V = ((1, 1), (-1, 1))
BIG = 10 ** 39 + 7
SOME = [(0, 1), (1, 1), (-1, 1), (2, 1), (-6, 1), (1, 2), (-3, 2), (2, 3), (-5, 4), (BIG, 3), (-1, BIG)]


def wrong_units():
    """Neither units for one base unit nor for two or three."""
    wrong = wrong_things() + wrong_fractions()
    wrong += [(thing,) for thing in wrong_fractions()]
    wrong += [((0, 1), thing) for thing in wrong_fractions()]
    wrong += [((0, 1), (1, 2), thing) for thing in wrong_fractions()]
    wrong += [((0, 1),) * 4, ((0, 1),) * 10, [(0, 1)], [(0, 1), (0, 1)], ([0, 1],), ((0, 1), [0, 1])]
    wrong += [{0: (0, 1)}, {(0, 1): (0, 1)}, "01", (((0, 1),),), deep_tuple((0, 1))]
    return wrong


def all_units(bases):
    return list(product(SOME, repeat=bases))


class IsUnitTest(unittest.TestCase):
    def test_units_for_their_number_of_base_units(self):
        for bases in (1, 2, 3):
            for unit in all_units(bases):
                self.assertEqual([is_unit(k, unit) for k in (1, 2, 3)], [k == bases for k in (1, 2, 3)])

    def test_it_returns_flags(self):
        self.assertIs(is_unit(2, M), True)
        self.assertIs(is_unit(1, M), False)
        self.assertIs(is_unit(2, None), False)
        self.assertIs(is_unit(2, ((1, 1), (True, 1))), False)

    def test_wrong_things_are_none(self):
        for thing in wrong_units():
            for bases in (1, 2, 3):
                self.assertIs(is_unit(bases, thing), False, thing)

    def test_lowest_terms_alone(self):
        for top in range(-13, 14):
            for bottom in range(-4, 8):
                right = bottom >= 1 and as_pair(Fraction(top, bottom)) == (top, bottom)
                self.assertIs(is_unit(1, ((top, bottom),)), right, (top, bottom))

    def test_beyond_40_digits(self):
        self.assertTrue(is_unit(1, ((10 ** 60 + 1, 10 ** 60),)))
        self.assertTrue(is_unit(2, ((-(7 ** 90), 2 ** 300), (0, 1))))
        self.assertFalse(is_unit(1, ((10 ** 60 + 2, 10 ** 60),)))


class ReckoningTest(unittest.TestCase):
    def check(self, function, one, other, exponents):
        self.assertEqual(function(one, other), tuple([as_pair(exponent) for exponent in exponents]))

    def test_times_and_by(self):
        for bases in (1, 2):
            for one, other in product(all_units(bases), repeat=2):
                pairs = [(as_python(a), as_python(b)) for a, b in zip(one, other)]
                self.check(times_unit, one, other, [a + b for a, b in pairs])
                self.check(by_unit, one, other, [a - b for a, b in pairs])

    def test_three_base_units(self):
        one, other = ((1, 2), (-1, 3), (0, 1)), ((1, 2), (1, 2), (-5, 4))
        self.assertEqual(times_unit(one, other), ((1, 1), (1, 6), (-5, 4)))
        self.assertEqual(by_unit(one, other), ((0, 1), (-5, 6), (5, 4)))
        self.assertEqual(power_unit(one, (-6, 1)), ((-3, 1), (2, 1), (0, 1)))

    def test_powers(self):
        for bases in (1, 2):
            for unit, power in product(all_units(bases), SOME):
                exponents = [as_python(exponent) * as_python(power) for exponent in unit]
                self.check(power_unit, unit, power, exponents)

    def test_unitless(self):
        for unit in all_units(2):
            self.assertEqual(times_unit(unit, N), unit)
            self.assertEqual(by_unit(unit, unit), N)
            self.assertEqual(power_unit(unit, (0, 1)), N)
            self.assertEqual(power_unit(unit, (1, 1)), unit)

    def test_big_exponents_in_lowest_terms(self):
        self.assertEqual(times_unit(((1, 2 * BIG),), ((1, 2 * BIG),)), ((1, BIG),))
        self.assertEqual(by_unit(((BIG + 1, BIG),), ((1, BIG),)), ((1, 1),))
        self.assertEqual(power_unit(((BIG, 10 ** 39),), (10 ** 39, BIG)), ((1, 1),))
        huge = power_unit(power_unit(((BIG, 2),), (BIG, 3)), (BIG, 5))
        self.assertEqual(huge, ((BIG ** 3, 30),))
        self.assertEqual(by_unit(huge, huge), ((0, 1),))

    def test_no_unit_for_each(self):
        for thing in wrong_units():
            for function in (times_unit, by_unit):
                for one, other in ((thing, M), (M, thing), (thing, thing), (thing, ((0, 1),)), (((0, 1),), thing)):
                    with self.assertRaises(NoUnit):
                        function(one, other)

    def test_other_bases(self):
        units = [((1, 2),) * bases for bases in (1, 2, 3)]
        for one, other in product(units, repeat=2):
            for function in (times_unit, by_unit):
                if len(one) == len(other):
                    function(one, other)
                else:
                    with self.assertRaises(OtherBases):
                        function(one, other)

    def test_no_unit_ahead_of_no_fraction(self):
        for thing in wrong_units():
            for power in ((1, 1), (2, 2), None):
                with self.assertRaises(NoUnit):
                    power_unit(thing, power)

    def test_no_fraction(self):
        for thing in wrong_fractions() + [M, V]:
            with self.assertRaises(NoFraction):
                power_unit(M, thing)


class FactorTest(unittest.TestCase):
    def expected(self, unit, roots, scale):
        exponents = [int(as_python(exponent) * scale) for exponent in unit]
        return as_pair(prod([as_python(root) ** exponent for root, exponent in zip(roots, exponents)]))

    def check(self, unit, roots, scale):
        self.assertEqual(factor(unit, roots, scale), self.expected(unit, roots, scale))

    def test_plain_ones(self):
        self.assertEqual(factor(((1, 1),), ((1000, 1),), 1), (1000, 1))
        self.assertEqual(factor(((-2, 1),), ((2, 3),), 1), (9, 4))
        self.assertEqual(factor(((3, 2),), ((2, 3),), 2), (8, 27))
        self.assertEqual(factor(((1, 2), (-1, 3)), ((2, 1), (3, 1)), 6), (8, 9))
        self.assertEqual(factor(((0, 1), (0, 1), (0, 1)), ((2, 7), (3, 1), (5, 1)), 1), (1, 1))

    def test_like_pythons_fractions(self):
        exponents = [(0, 1), (1, 1), (-1, 1), (5, 1), (-6, 1), (1, 2), (-3, 2), (2, 3), (-5, 4)]
        roots = [(1, 1), (2, 1), (1, 2), (3, 4), (10, 3), (BIG, 10 ** 39)]
        for unit in product(exponents, repeat=2):
            for pair in product(roots, repeat=2):
                for scale in (12, 24):
                    self.check(unit, pair, scale)

    def test_three_base_units(self):
        self.check(((1, 2), (-2, 1), (5, 4)), ((6, 1), (4, 3), (1, 6)), 4)
        self.check(((-1, 2), (-2, 1), (-5, 4)), ((6, 1), (4, 3), (1, 6)), 8)

    def test_the_product_is_in_lowest_terms(self):
        self.assertEqual(factor(((1, 1), (1, 1)), ((2, 3), (3, 2)), 1), (1, 1))
        self.assertEqual(factor(((1, 1), (-1, 1)), ((6, 1), (4, 1)), 1), (3, 2))
        self.assertEqual(factor(((1, 1), (1, 1), (1, 1)), ((2, 3), (9, 4), (1, 3)), 1), (1, 2))

    def test_great_powers(self):
        for exponent in (1000, 999, 512, -1000, -511):
            self.check(((exponent, 1), (-exponent, 1)), ((BIG, 3), (7, 2)), 1)
        self.check(((1, 500), (1, 2)), ((3, 2), (2, 3)), 1000)

    def test_a_great_scale_for_small_exponents(self):
        self.assertEqual(factor(N, ((2, 1), (3, 1)), BIG), (1, 1))
        self.assertEqual(factor(((2, BIG), (-1, BIG)), ((2, 1), (3, 1)), BIG), (4, 3))

    def test_a_change_of_units_keeps_products(self):
        roots = ((2, 3), (5, 1))
        for one, other in product(product([(0, 1), (-1, 2), (3, 4)], repeat=2), repeat=2):
            first, second = factor(one, roots, 4), factor(other, roots, 4)
            both = factor(times_unit(one, other), roots, 4)
            self.assertEqual(as_python(first) * as_python(second), as_python(both))

    def test_no_unit_comes_first(self):
        for thing in wrong_units():
            for roots, scale in ((((1, 1),), 1), (None, 1), (((1, 1),), 0), ([], "x"), (thing, thing)):
                with self.assertRaises(NoUnit):
                    factor(thing, roots, scale)

    def wrong_roots(self):
        wrong = wrong_things() + wrong_fractions()
        for thing in wrong_fractions() + [(0, 1), (-1, 1), (-2, 3), (-BIG, 1)]:
            wrong += [(thing, (1, 1)), ((1, 1), thing)]
        wrong += [((1, 1),), ((1, 1),) * 3, [(1, 1), (1, 1)], ([1, 1], (1, 1)), {0: (1, 1), 1: (1, 1)}]
        return wrong

    def test_no_roots_ahead_of_no_scale(self):
        for thing in self.wrong_roots():
            for scale in (1, 0, None, True, "1"):
                with self.assertRaises(NoRoots):
                    factor(V, thing, scale)
                with self.assertRaises(NoRoots):
                    factor(((1, 2), (0, 1)), thing, scale)

    def test_no_scale(self):
        for thing in wrong_things() + [0, -1, -2, -BIG, (1,), (1, 1), [1], "1"]:
            with self.assertRaises(NoScale):
                factor(N, ((1, 1), (1, 1)), thing)

    def test_no_scale_for_one_that_does_not_fit(self):
        for unit in (((1, 4), (1, 3)), ((0, 1), (-5, 12)), ((1, 6), (3, 4))):
            for scale in range(1, 49):
                if scale % 12:
                    with self.assertRaises(NoScale):
                        factor(unit, ((2, 1), (3, 1)), scale)
                else:
                    self.check(unit, ((2, 1), (3, 1)), scale)


class UnchangedTest(unittest.TestCase):
    def test_nothing_that_is_passed_is_changed(self):
        for thing in ([(0, 1)], {0: [1]}, ([0, 1], {"a": 1}), [[0, 1], [1, 2]]):
            kept = copy.deepcopy(thing)
            is_unit(2, thing)
            for call in (
                lambda: times_unit(thing, M), lambda: by_unit(M, thing), lambda: power_unit(M, thing),
                lambda: factor(M, thing, 1), lambda: factor(M, ((1, 1), (1, 1)), thing),
            ):
                with self.assertRaises(ValueError):
                    call()
            self.assertEqual(thing, kept)

    def test_an_object_of_the_package_is_no_unit(self):
        grid = Grid(1, (((((0, 1),)),),))
        self.assertIs(is_unit(1, grid), False)
        self.assertIs(is_unit(1, (grid,)), False)


if __name__ == "__main__":
    unittest.main()
