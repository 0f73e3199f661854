"""The document's examples."""

import unittest

from unitgrids.books import Book
from unitgrids.determinants import determinant_verdict
from unitgrids.grids import Grid, bottom, cell
from unitgrids.inverses import inverse_verdicts
from unitgrids.lines import line_text, read_line
from unitgrids.owns import own_polynomial, own_verdict
from unitgrids.partings import is_parting, three_numbers
from unitgrids.placings import live, many_placings
from unitgrids.powers import keeps, power_verdict
from unitgrids.reckoning import outcome
from unitgrids.scripts import Script, shape
from unitgrids.tables import is_table
from unitgrids.units import by_unit, factor, times_unit
from unitgrids.verdicts import least_way, unlike_length, verdict, verdicts
from unitgrids.ways import ways

N = ((0, 1), (0, 1))
M = ((1, 1), (0, 1))
V = ((1, 1), (-1, 1))
S = Script((Grid(2, ((M, V),)), Grid(2, ((N,), (N,)))), (("times", 0, 1),))
A = Grid(2, ((None, N), (((0, 1), (-2, 1)), ((0, 1), (-1, 1)))))
R = Script((Grid(1, ((None, ((1, 1),)), (((-1, 1),), None))),), (("star", 0),))


class ExamplesTest(unittest.TestCase):
    def test_e01(self):
        told = (times_unit(M, V), by_unit(M, V), factor(V, ((2, 1), (3, 1)), 1))
        self.assertEqual(told, (((2, 1), (-1, 1)), ((0, 1), (1, 1)), (2, 3)))

    def test_e02(self):
        told = (shape(S, 2), verdict(S, 2, 0, 0), unlike_length(S, 2, 0, 0), ways(S, 2, 0, 0, 2))
        self.assertEqual(told, ((1, 1), None, 2, [(0, (), ()), (1, (), ())]))

    def test_e03(self):
        told = (is_parting(S, 2, 0, 0, (1, 1)), is_parting(S, 2, 0, 0, (0, 1)), three_numbers(S, 2, 0, 0, (1, 1)))
        self.assertEqual(told, (True, False, ((2, 1), (3, 2), (5, 4))))

    def test_e04(self):
        told = (verdicts(R, 1), least_way(R, 1, 0, 0))
        expected = (((((0, 1),), ((1, 1),)), (((-1, 1),), ((0, 1),))), ((0, 1, 0), ((), ())))
        self.assertEqual(told, expected)

    def test_e05(self):
        told = outcome(R, ((((0, 1), (1, 2)), ((1, 2), (0, 1))),), 1)
        self.assertEqual(told, (((1, 3), (2, 3)), ((2, 3), (1, 3))))

    def test_e06(self):
        units = {(1, 0, 1): ((1, 1),), (0, 0, 1): ((1, 1),), (0, 1, 0): ((-1, 1),)}
        heights = {(1, 0, 0): ((0, 1),), (1, 0, 1): ((1, 1),)}
        self.assertIs(is_table(R, 1, 0, 1, (units, heights)), True)

    def test_e07(self):
        self.assertEqual((many_placings(A), determinant_verdict(A), live(A)), (1, ((0, 1), (-2, 1)), [(0, 1), (1, 0)]))

    def test_e08(self):
        self.assertEqual(inverse_verdicts(A), ((((0, 1), (1, 1)), ((0, 1), (2, 1))), (N, "nought")))

    def test_e09(self):
        told = (own_verdict(A), keeps(A), power_verdict(A, 2, 1, 1))
        self.assertEqual(told, (((0, 1), (-1, 1)), True, ((0, 1), (-2, 1))))

    def test_e10(self):
        self.assertEqual(own_polynomial((((0, 1), (1, 1)), ((-6, 1), (5, 1)))), ((1, 1), (-5, 1), (6, 1)))

    def test_e11(self):
        b = Book(1)
        told = (b.do("put a = . 1 ; -1 ."), b.do("let s = star(a) * a"), b.answer("s")[0][0], b.do("put a = . 1 ; 0 ."),
                b.why("s", 0, 1) is None)
        self.assertEqual(told, (["a"], ["s"], ((0, 1),), ["a", "s"], False))

    def test_e12(self):
        tree = ("let", "x", ("times", ("plus", ("name", "a"), ("name", "b")), ("star", ("name", "c"))))
        expected = (("let", "x", ("plus", ("name", "a"), ("times", ("turned", ("name", "b")), ("name", "c")))), "let x = (a + b) * star(c)")
        self.assertEqual((read_line(1, "let x = a + b' * c"), line_text(tree)), expected)

    def test_the_grids_above_it(self):
        self.assertEqual([cell(A, 0, 0), cell(A, 0, 1)], [None, N])
        self.assertEqual([cell(A, 1, 0), cell(A, 1, 1)], [((0, 1), (-2, 1)), ((0, 1), (-1, 1))])
        grids = [Grid(2, ((M, V),)), Grid(2, ((N,), (N,))), Grid(1, ((None, ((1, 1),)), (((-1, 1),), None)))]
        self.assertEqual([grid.bases for grid in grids], [2, 2, 1])
        self.assertEqual([grid.rows for grid in grids[:2]], [((M, V),), ((N,), (N,))])
        self.assertEqual([bottom(grid) for grid in grids], [1, 1, 1])


if __name__ == "__main__":
    unittest.main()
