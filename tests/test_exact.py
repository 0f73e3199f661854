"""The helper's fractions, which must be in lowest terms by themselves."""

import unittest
from itertools import product

from tests.things import as_pair, as_python
from unitgrids.exact import (is_above_nought, is_index, is_pair, is_whole, less, lowest, plus, raised,
                             sum_of_products, times, whole_power)

SOME = [(0, 1), (1, 1), (-1, 1), (7, 2), (-3, 4), (10 ** 40, 3), (1, 10 ** 40)]


class ExactTest(unittest.TestCase):
    def test_like_pythons_fractions(self):
        for one, other in product(SOME, repeat=2):
            first, second = as_python(one), as_python(other)
            self.assertEqual(plus(one, other), as_pair(first + second))
            self.assertEqual(less(one, other), as_pair(first - second))
            self.assertEqual(times(one, other), as_pair(first * second))

    def test_lowest(self):
        self.assertEqual([lowest(0, 6), lowest(-4, 6), lowest(9, 3)], [(0, 1), (-2, 3), (3, 1)])

    def test_powers(self):
        for number, power in product((0, 1, 2, 3, 10 ** 20), range(20)):
            self.assertEqual(whole_power(number, power), number ** power)
        for fraction, power in product([(1, 1), (7, 2), (3, 10 ** 40)], range(-9, 10)):
            self.assertEqual(raised(fraction, power), as_pair(as_python(fraction) ** power))

    def test_sums_of_products(self):
        self.assertEqual(sum_of_products([]), (0, 1))
        for one, other, third in product(SOME, repeat=3):
            pairs = [(one, other), (third, one), (other, other)]
            expected = sum(as_python(first) * as_python(second) for first, second in pairs)
            self.assertEqual(sum_of_products(pairs), as_pair(expected))

    def test_judgements(self):
        self.assertEqual([is_index(thing, 2) for thing in (0, 1, 2, -1, True, "0")], [True] * 2 + [False] * 4)
        self.assertEqual([is_pair(thing) for thing in ((1, 2), (1,), (1, 2, 3), [1, 2], "12")], [True] + [False] * 4)
        self.assertEqual([is_whole(thing) for thing in (0, -5, True, False, "1", None)], [True] * 2 + [False] * 4)
        self.assertEqual([is_above_nought(thing) for thing in ((1, 2), (0, 1), (-1, 2), 1)], [True] + [False] * 3)


if __name__ == "__main__":
    unittest.main()
