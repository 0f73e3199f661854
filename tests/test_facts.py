"""All of the package together: what the facts say of one thing in several words, and grids told otherwise."""

import random
import unittest
from fractions import Fraction
from itertools import product

from tests import oracle
from tests.signs import heighted_grid, told
from tests.test_determinants import sided_grid
from tests.things import as_pair, as_python
from unitgrids.determinants import determinant_verdict, sides, two_placings
from unitgrids.errors import BadGrid, NoPlacing
from unitgrids.grids import Grid
from unitgrids.inverses import inverse_verdicts, inverse_walks, solution_verdicts
from unitgrids.mends import fewest_noughts, fewest_struck
from unitgrids.owns import own_heights, own_verdict, two_rings
from unitgrids.partings import is_parting, parting
from unitgrids.placings import live, many_placings
from unitgrids.powers import differences, keeps, power_verdict, unlike_rows
from unitgrids.scripts import Script, is_nought, renamed
from unitgrids.tables import is_table, table
from unitgrids.verdicts import is_two_ways, needed, two_ways, unlike_length, verdict, verdicts


def plus(unit, other, sign=1):
    if unit in (None, "nought"):
        return unit
    return tuple(as_pair(as_python(one) + sign * as_python(more)) for one, more in zip(unit, other))


def reordered(grid, rows, columns):
    return Grid(grid.bases, tuple(tuple(grid.rows[i][j] for j in columns) for i in rows))


def with_sides(grid, lefts, tops):
    """The grid with units put to its rows and columns, None if these are too great for a Grid."""
    rows = [[plus(plus(unit, lefts[i]), tops[j]) for j, unit in enumerate(row)] for i, row in enumerate(grid.rows)]
    try:
        return Grid(grid.bases, told(rows))
    except BadGrid:
        return None


def turned(grid):
    return Grid(grid.bases, tuple(zip(*grid.rows)))


def random_heights(chance, bases, many):
    return [tuple((chance.randint(-1, 1), 1) for _ in range(bases)) for _ in range(many)]


def lessened(heights):
    return [tuple((-top, bottom) for top, bottom in height) for height in heights]


def shuffled(chance, many):
    order = list(range(many))
    chance.shuffle(order)
    return order


class MainFactTest(unittest.TestCase):
    def test_a_unit_a_table_no_two_ways_no_parting(self):
        chance = random.Random(241)
        kinds = {}
        for _ in range(120):
            script = oracle.random_script(chance, steps=4, grids=2, most=3, stars=2, plain=chance.random() < 0.8)
            cells = list(oracle.all_cells(script))
            chance.shuffle(cells)
            for at, i, j in cells[:5]:
                found = verdict(script, at, i, j)
                has_unit = isinstance(found, tuple)
                one, pair, three = table(script, at, i, j), two_ways(script, at, i, j), parting(script, at, i, j)
                self.assertIs(one is not None, has_unit)
                self.assertIs(pair is not None, found is None)
                self.assertIs(three is not None, found is None)
                self.assertIs(unlike_length(script, at, i, j) is None, found is not None)
                self.assertIs(is_nought(script, at, i, j), found == "nought")
                self.assertIs(needed(script, at, i, j) == [], found == "nought")
                self.assertEqual(fewest_noughts(script, at, i, j, 0), () if has_unit else None)
                if has_unit:
                    self.assertIs(is_table(script, at, i, j, one), True)
                    self.assertEqual(one[0][(at, i, j)], found)
                if found is None:
                    self.assertIs(is_two_ways(script, at, i, j, pair), True)
                    self.assertIs(is_parting(script, at, i, j, three), True)
                kind = "unit" if has_unit else str(found)
                kinds[kind] = kinds.get(kind, 0) + 1
        self.assertGreater(min(kinds[kind] for kind in ("unit", "None", "nought")), 50)

    def test_grids_in_another_order(self):
        chance = random.Random(242)
        for _ in range(60):
            script = oracle.random_script(chance, steps=4, grids=3, most=3)
            order = shuffled(chance, len(script.grids))
            other = renamed(script, tuple(order))
            for at in range(len(script.grids), len(script.grids) + len(script.steps)):
                self.assertEqual(verdicts(other, at), verdicts(script, at))


class ToldOtherwiseTest(unittest.TestCase):
    """Verdicts on stars, inverses, own numbers and powers of grids that are told otherwise go along."""

    def grids(self, seed, times, make):
        chance = random.Random(seed)
        for _ in range(times):
            many = chance.choice((1, 2, 3, 4, 6))
            yield chance, make(chance, chance.randint(1, 2), many, chance.choice((0.3, 0.6, 1)), chance.choice((0, 1, 2)))

    def test_places_in_another_order(self):
        for chance, grid in self.grids(243, 120, heighted_grid):
            many = len(grid.rows)
            order = shuffled(chance, many)
            other = reordered(grid, order, order)
            power = chance.randint(1, 9)
            star, star_of_other = (verdicts(Script((one,), (("star", 0),)), 1) for one in (grid, other))
            for i, j in product(range(many), repeat=2):
                self.assertEqual(power_verdict(other, power, i, j), power_verdict(grid, power, order[i], order[j]))
                self.assertEqual(star_of_other[i][j], star[order[i]][order[j]])
            self.assertEqual(own_verdict(other), own_verdict(grid))
            self.assertIs(keeps(other), keeps(grid))
            found = differences(grid)
            self.assertEqual(differences(other), None if found is None else {
                (p, q): found[(order[p], order[q])] for p, q in product(range(many), repeat=2) if (order[p], order[q]) in found})
            if found is None:
                self.assertEqual(len(unlike_rows(other)[0]), len(unlike_rows(grid)[0]))

    def test_heights(self):
        told_times = 0
        for chance, grid in self.grids(244, 120, heighted_grid):
            many = len(grid.rows)
            heights = random_heights(chance, grid.bases, many)
            other = with_sides(grid, heights, lessened(heights))
            if other is None:
                continue
            told_times += 1
            power = chance.randint(1, 9)
            star, star_of_other = (verdicts(Script((one,), (("star", 0),)), 1) for one in (grid, other))
            for i, j in product(range(many), repeat=2):
                for one, same in ((power_verdict(grid, power, i, j), power_verdict(other, power, i, j)), (star[i][j], star_of_other[i][j])):
                    self.assertEqual(same, plus(plus(one, heights[i]), heights[j], -1))
            self.assertEqual(own_verdict(other), own_verdict(grid))
            self.assertIs(keeps(other), keeps(grid))
            self.assertIs(two_rings(other) is None, two_rings(grid) is None)
            self.assertIs(own_heights(other) is None, own_heights(grid) is None)
        self.assertGreater(told_times, 60)

    def test_units_put_to_rows_and_columns(self):
        told_times = 0
        for chance, grid in self.grids(245, 120, sided_grid):
            many = len(grid.rows)
            lefts, tops = random_heights(chance, grid.bases, many), random_heights(chance, grid.bases, many)
            other = with_sides(grid, lefts, tops)
            if other is None:
                continue
            told_times += 1
            total = [as_python((0, 1))] * grid.bases
            for unit in lefts + tops:
                total = [one + as_python(more) for one, more in zip(total, unit)]
            total = tuple(as_pair(Fraction(one)) for one in total)
            self.assertEqual(determinant_verdict(other), plus(determinant_verdict(grid), total))
            self.assertEqual((live(other), many_placings(other)), (live(grid), many_placings(grid)))
            self.assertEqual(fewest_struck(other, 2), fewest_struck(grid, 2))
            self.assertIs(sides(other) is None, two_placings(grid) is not None)
            if many_placings(grid) == 0:
                continue
            one, changed = inverse_verdicts(grid), inverse_verdicts(other)
            for i, j in product(range(many), repeat=2):
                self.assertEqual(changed[i][j], plus(plus(one[i][j], tops[i], -1), lefts[j], -1))
                self.assertIs(inverse_walks(other, i, j) is None, inverse_walks(grid, i, j) is None)
            right = tuple(None if chance.random() < 0.5 else ((1, 1),) * grid.bases for _ in range(many))
            one = solution_verdicts(grid, right)
            changed = solution_verdicts(other, tuple(plus(side, left) for side, left in zip(right, lefts)))
            self.assertEqual(changed, tuple(plus(found, top, -1) for found, top in zip(one, tops)))
        self.assertGreater(told_times, 60)

    def test_rows_and_columns_in_another_order(self):
        for chance, grid in self.grids(246, 120, sided_grid):
            many = len(grid.rows)
            rows, columns = shuffled(chance, many), shuffled(chance, many)
            other = reordered(grid, rows, columns)
            self.assertEqual(determinant_verdict(other), determinant_verdict(grid))
            self.assertEqual(live(other), sorted((rows.index(i), columns.index(j)) for i, j in live(grid)))
            if many_placings(grid) == 0:
                with self.assertRaises(NoPlacing):
                    inverse_verdicts(other)
                continue
            one, changed = inverse_verdicts(grid), inverse_verdicts(other)
            for i, j in product(range(many), repeat=2):
                self.assertEqual(changed[i][j], one[columns[i]][rows[j]])

    def test_turned(self):
        for chance, grid in self.grids(247, 120, heighted_grid):
            other = turned(grid)
            power = chance.randint(1, 9)
            for i, j in product(range(len(grid.rows)), repeat=2):
                self.assertEqual(power_verdict(other, power, i, j), power_verdict(grid, power, j, i))
            self.assertEqual(own_verdict(other), own_verdict(grid))
            self.assertEqual(determinant_verdict(other), determinant_verdict(grid))
            self.assertIs(keeps(other), keeps(grid))
            found = differences(grid)
            self.assertEqual(set(differences(other) or ()), set(found or ()))
            if many_placings(grid) > 0:
                self.assertEqual(inverse_verdicts(other), tuple(zip(*inverse_verdicts(grid))))

    def test_what_powers_and_stars_tell_of_one_another(self):
        for chance, grid in self.grids(248, 60, heighted_grid):
            many = len(grid.rows)
            script = Script((grid,), (("star", 0), ("times", 0, 0), ("times", 2, 0)))
            star = verdicts(script, 1)
            for i, j in product(range(many), repeat=2):
                powers = [power_verdict(grid, power, i, j) for power in range(1, 2 * many + 1)]
                found = {one for one in powers if one != "nought"}
                expected = "nought" if not found else found.pop() if len(found) == 1 else None
                self.assertEqual(star[i][j], expected)
                self.assertEqual(verdict(script, 2, i, j), powers[1])
                self.assertEqual(verdict(script, 3, i, j), power_verdict(grid, 3, i, j))


if __name__ == "__main__":
    unittest.main()
