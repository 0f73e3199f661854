"""Promise 6.2: tables."""

import copy
import random
import unittest
from fractions import Fraction
from itertools import product

from tests import oracle
from tests.things import as_python, deep_dict, deep_list, deep_tuple, fails_with, wrong_numbers, wrong_things
from unitgrids.errors import NoCell, NoGrid
from unitgrids.grids import Grid
from unitgrids.scripts import Script, fitting_script, many_grids, shape
from unitgrids.tables import is_table, table
from unitgrids.units import is_unit

N, M, D, H, TWO = ((0, 1),), ((1, 1),), ((-1, 1),), ((1, 2),), ((2, 1),)
RING = Script((Grid(1, ((None, M), (D, None))),), (("star", 0),))


def by_words(script, cell, thing):
    """What the document says of a table, for a pair of dicts from triples of numbers to units."""
    units, heights = thing
    noughts = oracle.Units(script)

    def unit(key):
        return tuple(as_python(exponent) for exponent in units[key])

    def height(key):
        return tuple(as_python(exponent) for exponent in heights[key])

    def both(one, other):
        return tuple(first + second for first, second in zip(one, other))

    def there(at, i, j):
        return noughts.verdict(at, i, j) != "nought"

    def leads(at, start, ends):
        seen, waiting = {start}, [start]
        while waiting:
            place = waiting.pop()
            for q in range(shape(script, at)[0]):
                if there(at, place, q) and q not in seen:
                    seen.add(q)
                    waiting.append(q)
        return bool(seen & set(ends))

    if cell not in units or any(key not in set(oracle.all_cells(script)) or not there(*key) for key in units):
        return False
    bases = script.grids[0].bases
    put = len(script.grids)
    stars = [at for at in range(put, many_grids(script)) if script.steps[at - put][0] == "star"]
    for at, start, place in heights:
        if at not in stars or not (0 <= start < shape(script, at)[0] and 0 <= place < shape(script, at)[0]):
            return False
    if not all(is_unit(bases, one) for one in list(units.values()) + list(heights.values())):
        return False
    for at, i, j in units:
        if at < put:
            if units[(at, i, j)] != script.grids[at].rows[i][j]:
                return False
            continue
        step = script.steps[at - put]
        if step[0] == "star":
            if heights.get((at, i, j)) != units[(at, i, j)] or heights.get((at, i, i)) != ((0, 1),) * bases:
                return False
            continue
        if step[0] == "plus":
            sums = [[(term, i, j)] for term in step[1:]]
        elif step[0] == "times":
            sums = [[(step[1], i, k), (step[2], k, j)] for k in range(shape(script, step[1])[1])]
        else:
            sums = [[oracle.moved_cell(script, step, i, j)]]
        for cells in sums:
            if all(there(*one) for one in cells):
                if any(one not in units for one in cells):
                    return False
                total = unit(cells[0]) if len(cells) == 1 else both(unit(cells[0]), unit(cells[1]))
                if total != unit((at, i, j)):
                    return False
    for at, start, place in heights:
        summed = script.steps[at - put][1]
        ends = [j for number, i, j in units if (number, i) == (at, start)]
        for q in range(shape(script, at)[0]):
            if there(summed, place, q) and leads(summed, q, ends):
                if (summed, place, q) not in units or (at, start, q) not in heights:
                    return False
                if height((at, start, q)) != both(height((at, start, place)), unit((summed, place, q))):
                    return False
    return True


def changed_tables(chance, script, pair):
    """Tables with a missing, a further or a wrong entry in one of the two dicts, each by itself."""
    units, heights = pair
    bases = script.grids[0].bases
    other = ((1, 7),) * bases
    verdicts = oracle.Units(script)
    for key in units:
        yield {one: units[one] for one in units if one != key}, heights
        yield {**units, key: other}, heights
        yield {**units, key: units[key] + ((0, 1),)}, heights
    for key in heights:
        yield units, {one: heights[one] for one in heights if one != key}
        yield units, {**heights, key: other}
        yield units, {**heights, key: ((0, 1),) * bases}
    for cell in chance.sample(list(oracle.all_cells(script)), min(12, len(list(oracle.all_cells(script))))):
        if cell not in units:
            yield {**units, cell: other}, heights
            if isinstance(verdicts.verdict(*cell), tuple):
                yield {**units, cell: verdicts.verdict(*cell)}, heights
    for at in range(many_grids(script)):
        rows = shape(script, at)[0]
        key = (at, chance.randrange(rows), chance.randrange(rows))
        for one in (other, ((0, 1),) * bases):
            if key not in heights:
                yield units, {**heights, key: one}


class ByHandTest(unittest.TestCase):
    def both_ways(self, script, cell, pair, expected):
        self.assertIs(is_table(script, *cell, pair), expected, pair)
        self.assertIs(by_words(script, cell, pair), expected, pair)

    def test_what_is_put_in(self):
        script = Script((Grid(1, ((M, None), (H, D))),), ())
        self.assertEqual(table(script, 0, 0, 0), ({(0, 0, 0): M}, {}))
        self.both_ways(script, (0, 0, 0), ({(0, 0, 0): M}, {}), True)
        self.both_ways(script, (0, 0, 0), ({(0, 0, 0): M, (0, 1, 0): H}, {}), True)
        self.both_ways(script, (0, 0, 0), ({(0, 0, 0): M, (0, 1, 0): M}, {}), False)
        self.both_ways(script, (0, 0, 0), ({(0, 0, 0): M, (0, 0, 1): M}, {}), False)
        self.both_ways(script, (0, 0, 0), ({(0, 0, 0): H}, {}), False)
        self.both_ways(script, (0, 0, 0), ({(0, 1, 0): H}, {}), False)
        self.both_ways(script, (0, 0, 0), ({}, {}), False)
        self.both_ways(script, (0, 0, 0), ({(0, 0, 0): M}, {(0, 0, 0): N}), False)
        self.assertIsNone(table(script, 0, 0, 1))
        self.assertIs(is_table(script, 0, 0, 1, ({(0, 0, 1): M}, {})), False)

    def test_plus(self):
        script = Script((Grid(1, ((M, H, None, None),)), Grid(1, ((M, M, D, None),))), (("plus", 0, 1),))
        right = {(2, 0, 0): M, (0, 0, 0): M, (1, 0, 0): M}
        self.both_ways(script, (2, 0, 0), (right, {}), True)
        for key in right:
            self.both_ways(script, (2, 0, 0), ({one: M for one in right if one != key}, {}), False)
            self.both_ways(script, (2, 0, 0), ({**right, key: H}, {}), False)
        self.both_ways(script, (2, 0, 0), ({one: H for one in right}, {}), False)
        for unit in (M, H):
            self.both_ways(script, (2, 0, 1), ({(2, 0, 1): unit, (0, 0, 1): H, (1, 0, 1): M}, {}), False)
        self.assertIsNone(table(script, 2, 0, 1))
        self.both_ways(script, (2, 0, 2), ({(2, 0, 2): D, (1, 0, 2): D}, {}), True)
        self.both_ways(script, (2, 0, 2), ({(2, 0, 2): D, (1, 0, 2): D, (0, 0, 2): D}, {}), False)
        self.assertIsNone(table(script, 2, 0, 3))
        self.both_ways(script, (2, 0, 0), ({**right, (2, 0, 2): D}, {}), False)
        self.both_ways(script, (2, 0, 0), ({**right, (2, 0, 2): D, (1, 0, 2): D}, {}), True)

    def test_times(self):
        script = Script((Grid(1, ((M, H, D),)), Grid(1, ((M,), (((3, 2),),), (None,)))), (("times", 0, 1),))
        right = {(2, 0, 0): TWO, (0, 0, 0): M, (0, 0, 1): H, (1, 0, 0): M, (1, 1, 0): ((3, 2),)}
        self.both_ways(script, (2, 0, 0), (right, {}), True)
        for key in right:
            self.both_ways(script, (2, 0, 0), ({one: right[one] for one in right if one != key}, {}), False)
            self.both_ways(script, (2, 0, 0), ({**right, key: D}, {}), False)
        self.both_ways(script, (2, 0, 0), ({**right, (0, 0, 2): D}, {}), True)
        self.both_ways(script, (2, 0, 0), ({**right, (1, 2, 0): D}, {}), False)

    def test_cells_that_are_moved(self):
        grid = Grid(1, ((M, None), (H, D)))
        for step, cell, source, unit in ((("turned", 0), (1, 0, 1), (0, 1, 0), H), (("beside", 0, 0), (1, 1, 3), (0, 1, 1), D),
                                         (("above", 0, 0), (1, 2, 0), (0, 0, 0), M), (("beside", 0, 0), (1, 1, 0), (0, 1, 0), H),
                                         (("piece", 0, 1, 0, 1, 2), (1, 0, 1), (0, 1, 1), D), (("above", 0, 0), (1, 1, 1), (0, 1, 1), D)):
            script = Script((grid,), (step,))
            self.assertEqual(table(script, *cell), ({cell: unit, source: unit}, {}))
            self.both_ways(script, cell, ({cell: unit, source: unit}, {}), True)
            self.both_ways(script, cell, ({cell: unit}, {}), False)
            self.both_ways(script, cell, ({source: unit}, {}), False)
            self.both_ways(script, cell, ({cell: TWO, source: unit}, {}), False)
            self.both_ways(script, cell, ({cell: TWO, source: TWO}, {}), False)
            self.both_ways(script, cell, ({cell: unit, source: unit, (1, 0, 0): N}, {}), False)

    def test_a_ring(self):
        units = {(1, 0, 1): M, (0, 0, 1): M, (0, 1, 0): D}
        heights = {(1, 0, 0): N, (1, 0, 1): M}
        self.both_ways(RING, (1, 0, 1), (units, heights), True)
        for key in units:
            self.both_ways(RING, (1, 0, 1), ({one: units[one] for one in units if one != key}, heights), False)
            self.both_ways(RING, (1, 0, 1), ({**units, key: H}, heights), False)
        for key in heights:
            self.both_ways(RING, (1, 0, 1), (units, {one: heights[one] for one in heights if one != key}), False)
            self.both_ways(RING, (1, 0, 1), (units, {**heights, key: H}), False)
        # The second row starts nowhere, so that nothing is asked of it.
        self.both_ways(RING, (1, 0, 1), (units, {**heights, (1, 1, 0): H}), True)
        self.both_ways(RING, (1, 0, 1), (units, {**heights, (1, 1, 0): H, (1, 1, 1): N}), True)
        self.both_ways(RING, (1, 0, 1), ({**units, (1, 1, 1): N}, heights), False)
        self.both_ways(RING, (1, 0, 1), ({**units, (1, 1, 1): N}, {**heights, (1, 1, 1): N}), False)
        self.both_ways(RING, (1, 0, 1), ({**units, (1, 1, 1): N}, {**heights, (1, 1, 1): N, (1, 1, 0): D}), True)
        self.both_ways(RING, (1, 0, 1), ({**units, (1, 1, 1): N}, {**heights, (1, 1, 1): N, (1, 1, 0): M}), False)
        for key in ((0, 0, 0), (1, 0, 2), (1, 2, 0), (2, 0, 0), (1, -1, 0)):
            self.both_ways(RING, (1, 0, 1), (units, {**heights, key: N}), False)

    def test_heights_that_no_path_comes_by(self):
        # From place 2 there is a path to 1, but none from 0 to 2: a height for 2 must fit all the same.
        grid = Grid(1, ((None, M, None, None), (None, None, None, H), (None, H, None, None), (None, None, None, None)))
        script = Script((grid,), (("star", 0),))
        units, heights = {(1, 0, 1): M, (0, 0, 1): M}, {(1, 0, 0): N, (1, 0, 1): M}
        self.assertEqual(table(script, 1, 0, 1), (units, heights))
        self.both_ways(script, (1, 0, 1), (units, {**heights, (1, 0, 2): H}), False)
        self.both_ways(script, (1, 0, 1), ({**units, (0, 2, 1): H}, {**heights, (1, 0, 2): H}), True)
        self.both_ways(script, (1, 0, 1), ({**units, (0, 2, 1): H}, {**heights, (1, 0, 2): M}), False)
        # From place 3 nothing goes on, and (0, 1, 3) leads to no end.
        self.both_ways(script, (1, 0, 1), (units, {**heights, (1, 0, 3): D}), True)
        self.both_ways(script, (1, 0, 1), ({**units, (0, 1, 3): H}, heights), True)
        self.both_ways(script, (1, 0, 1), ({**units, (1, 0, 3): ((3, 2),)}, {**heights, (1, 0, 3): ((3, 2),)}), False)
        self.both_ways(script, (1, 0, 1), ({**units, (1, 0, 3): ((3, 2),), (0, 1, 3): H},
                                           {**heights, (1, 0, 3): ((3, 2),)}), True)

    def test_a_star_whose_start_must_be_unitless(self):
        script = Script((Grid(1, ((M,),)),), (("star", 0),))
        self.assertIsNone(table(script, 1, 0, 0))
        for unit in (N, M):
            self.both_ways(script, (1, 0, 0), ({(1, 0, 0): unit, (0, 0, 0): M}, {(1, 0, 0): unit}), False)
        line = Script((Grid(1, ((None, M), (None, None))),), (("star", 0),))
        self.both_ways(line, (1, 0, 1), ({(1, 0, 1): M, (0, 0, 1): M}, {(1, 0, 0): N, (1, 0, 1): M}), True)
        self.both_ways(line, (1, 0, 1), ({(1, 0, 1): TWO, (0, 0, 1): M}, {(1, 0, 0): M, (1, 0, 1): TWO}), False)

    def test_two_stars_and_a_product(self):
        script = Script((Grid(2, ((((0, 1),) * 2,),)),), (("star", 0), ("star", 1), ("times", 1, 2)))
        n = ((0, 1), (0, 1))
        units = {(at, 0, 0): n for at in range(4)}
        heights = {(1, 0, 0): n, (2, 0, 0): n}
        self.assertEqual(table(script, 3, 0, 0), (units, heights))
        self.both_ways(script, (3, 0, 0), (units, heights), True)
        for key in heights:
            self.both_ways(script, (3, 0, 0), (units, {one: n for one in heights if one != key}), False)
        for key in units:
            self.both_ways(script, (3, 0, 0), ({one: n for one in units if one != key}, heights), False)

    def test_units_of_other_grids_count_too(self):
        script = Script((Grid(1, ((M,),)),), (("times", 0, 0), ("plus", 0, 1)))
        self.both_ways(script, (0, 0, 0), ({(0, 0, 0): M, (1, 0, 0): TWO}, {}), True)
        self.both_ways(script, (0, 0, 0), ({(0, 0, 0): M, (1, 0, 0): M}, {}), False)
        self.both_ways(script, (0, 0, 0), ({(0, 0, 0): M, (1, 0, 0): TWO, (2, 0, 0): M}, {}), False)
        self.both_ways(script, (0, 0, 0), ({(0, 0, 0): M, (3, 0, 0): M}, {}), False)


class AnythingTest(unittest.TestCase):
    UNITS = {(1, 0, 1): M, (0, 0, 1): M, (0, 1, 0): D}
    HEIGHTS = {(1, 0, 0): N, (1, 0, 1): M}

    def test_no_pair_of_dicts(self):
        one, other = self.UNITS, self.HEIGHTS
        wrong = wrong_things() + [one, (one,), (one, other, {}), [one, other], (other, one), {0: one, 1: other}, 5]
        wrong += [(list(one.items()), other), (one, tuple(other.items())), (deep_dict(one), other), deep_tuple((one, other))]
        wrong += [(one, deep_dict(other)), deep_list(one)]
        for thing in wrong_things():
            wrong += [(thing, other), (one, thing) if thing != {} else (thing, thing), (thing, thing)]
        for thing in wrong:
            self.assertIs(is_table(RING, 1, 0, 1, thing), False, thing)

    def test_odd_keys(self):
        keys = [None, "", "(0, 0, 1)", b"ab", (), (0, 0), (0, 0, 1, 0), (0, 0, "1"), (0, None, 1), ((0, 0, 1),), 0, -1,
                (0, 0, 10 ** 40), (10 ** 40, 0, 1), (0, 0, -1), (-1, 0, 1), (0, 2, 0), (0, 0, 2), (2, 0, 0), (0, 0, (1,)),
                deep_tuple(0), (0, 0, deep_tuple(1)), len, int, Grid, range(3), Ellipsis, (1, 0, "0"), ("1", 0, 0)]
        for key in keys:
            for unit in (N, M, None):
                self.assertIs(is_table(RING, 1, 0, 1, ({**self.UNITS, key: unit}, self.HEIGHTS)), False, key)
                self.assertIs(is_table(RING, 1, 0, 1, (self.UNITS, {**self.HEIGHTS, key: unit})), False, key)
                self.assertIs(is_table(RING, 1, 0, 1, ({key: unit}, {key: unit})), False, key)

    def test_odd_units(self):
        wrong = wrong_things() + [0, (0, 1), ((0, 1), (0, 1)), [(1, 1)], ([1, 1],), ((2, 2),), ((1, 0),), ((True, 1),),
                                  ((0, True),), "nought", deep_tuple(N), deep_list(N)]
        for unit in wrong:
            for key in self.UNITS:
                self.assertIs(is_table(RING, 1, 0, 1, ({**self.UNITS, key: unit}, self.HEIGHTS)), False)
            for key in list(self.HEIGHTS) + [(1, 1, 0), (1, 1, 1)]:
                self.assertIs(is_table(RING, 1, 0, 1, (self.UNITS, {**self.HEIGHTS, key: unit})), False)

    def test_nothing_that_is_passed_is_changed(self):
        pair = (self.UNITS, {**self.HEIGHTS, (1, 1, 0): [H]})
        kept, script = copy.deepcopy(pair), copy.deepcopy(RING)
        self.assertIs(is_table(RING, 1, 0, 1, pair), False)
        self.assertIs(is_table(RING, 1, 0, 1, (self.UNITS, self.HEIGHTS)), True)
        self.assertEqual((pair, RING), (kept, script))

    def test_no_grid_then_no_cell_ahead_of_all(self):
        calls = [table] + [lambda *cell, thing=thing: is_table(RING, *cell, thing) for thing in (None, ({}, {}), 5)]
        calls.append(lambda *cell: is_table(RING, *cell, (self.UNITS, self.HEIGHTS)))
        calls[0] = lambda *cell: table(RING, *cell)
        for call in calls:
            for wrong in wrong_numbers() + [2, 10 ** 40]:
                for i, j in ((0, 0), (wrong, 0), (9, wrong)):
                    fails_with(self, NoGrid, lambda: call(wrong, i, j))
                for at in (0, 1):
                    for i, j in ((wrong, 0), (0, wrong), (wrong, wrong)):
                        fails_with(self, NoCell, lambda: call(at, i, j))

    def test_tables_are_new(self):
        one = table(RING, 1, 0, 1)
        one[0].clear()
        one[1].clear()
        self.assertEqual(table(RING, 1, 0, 1), (self.UNITS, self.HEIGHTS))


class AllTest(unittest.TestCase):
    def test_a_table_just_for_what_has_a_unit(self):
        chance = random.Random(71)
        told = {True: 0, False: 0}
        for _ in range(150):
            script = oracle.random_script(chance, chance.randint(0, 6), most=chance.choice((1, 2, 3)), stars=3,
                                          fill=chance.choice((0.3, 0.5, 0.7, 1)), plain=chance.random() < 0.7)
            units = oracle.Units(script)
            for cell in oracle.all_cells(script):
                found = table(script, *cell)
                has_unit = isinstance(units.verdict(*cell), tuple)
                self.assertIs(found is not None, has_unit)
                told[has_unit] += 1
                if has_unit:
                    self.assertIsInstance(found, tuple)
                    self.assertIs(is_table(script, *cell, found), True)
                    self.assertIs(by_words(script, cell, found), True)
                    self.assertEqual(found[0][cell], units.verdict(*cell))
        self.assertGreater(min(told.values()), 500)

    def test_changed_tables(self):
        chance = random.Random(72)
        told = {True: 0, False: 0}
        for _ in range(60):
            script = oracle.random_script(chance, chance.randint(1, 5), most=2 if chance.random() < 0.7 else 3,
                                          fill=chance.choice((0.4, 0.7)))
            cells = [cell for cell in oracle.all_cells(script) if table(script, *cell) is not None]
            for cell in chance.sample(cells, min(3, len(cells))):
                for pair in changed_tables(chance, script, table(script, *cell)):
                    found = is_table(script, *cell, pair)
                    self.assertIs(found, by_words(script, cell, pair))
                    told[found] += 1
        self.assertGreater(told[False], 500)
        self.assertGreater(told[True], 50)

    def test_no_pair_shows_what_is_wrong(self):
        # Whatever units are told for a cell without a unit, there is no table: tried for all units of few.
        script = Script((Grid(1, ((M, N), (None, N))),), (("star", 0), ("plus", 0, 1)))
        choices = (N, M)
        keys = [(0, 0, 0), (0, 0, 1), (0, 1, 1), (1, 0, 1)]
        names = [(1, 0, 0), (1, 0, 1)]
        for told in product(choices, repeat=len(keys) + len(names)):
            pair = (dict(zip(keys, told)), dict(zip(names, told[len(keys):])))
            self.assertIs(is_table(script, 1, 0, 1, pair), False)

    def test_great_scripts(self):
        heights = [Fraction(k % 4, 2) for k in range(6)]
        rows = tuple(tuple(((((one - other).numerator), (one - other).denominator),) for other in heights)
                     for one in heights)
        steps = (("star", 0), ("times", 1, 1), ("star", 2), ("plus", 2, 3), ("star", 4), ("times", 5, 0), ("beside", 6, 6),
                 ("above", 7, 7), ("times", 8, 8), ("piece", 9, 3, 3, 6, 6))
        script = Script((Grid(1, rows),), steps)
        pair = table(script, 10, 2, 4)
        self.assertIs(is_table(script, 10, 2, 4, pair), True)
        self.assertEqual(len(pair[1]), 3 * 36)
        for key in list(pair[0])[::9]:
            self.assertIs(is_table(script, 10, 2, 4, ({**pair[0], key: ((7, 1),)}, pair[1])), False)

    def test_no_depth(self):
        many = 2500
        script = fitting_script((Grid(1, ((N,),)),), tuple(("plus", k, 0) for k in range(many)), ((1, 1),) * (many + 1))
        pair = table(script, many, 0, 0)
        self.assertEqual(len(pair[0]), many + 1)
        self.assertIs(is_table(script, many, 0, 0, pair), True)


if __name__ == "__main__":
    unittest.main()
