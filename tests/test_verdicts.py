"""Promises 6.1, 6.3, the lengths of 5.2, and needed of 6.5."""

import copy
import random
import unittest
from itertools import permutations, product

from tests import oracle
from tests.things import deep_list, deep_tuple, fails_with, wrong_numbers, wrong_things
from unitgrids.errors import NoCell, NoGrid, TooLong
from unitgrids.grids import Grid
from unitgrids.scripts import Script, fitting_script, is_nought, many_grids, retold_in, shape
from unitgrids.verdicts import (is_two_ways, least_length, least_way, needed, two_ways, unlike_length, verdict,
                                verdicts)
from unitgrids.ways import bag, is_way, way_unit

NOUGHT = "nought"
N, M, D, H = ((0, 1),), ((1, 1),), ((-1, 1),), ((1, 2),)
QUERIES = (verdict, least_length, unlike_length, least_way, two_ways, needed)


def one_by_one(unit):
    return Grid(len(unit), ((unit,),))


def length_of(script, cell, way):
    return sum(bag(script, *cell, way).values())


def longest(steps, grids, many):
    """A script whose last cell has ways of one length, this many: powers of two, then their products."""
    powers = [0]
    while 2 ** len(powers) <= many:
        steps.append(("times", powers[-1], powers[-1]))
        powers.append(len(grids) + len(steps) - 1)
    parts = [number for k, number in enumerate(powers) if many >> k & 1]
    last = parts[0]
    for number in parts[1:]:
        steps.append(("times", last, number))
        last = len(grids) + len(steps) - 1
    return last


class VerdictTest(unittest.TestCase):
    def last(self, grids, *steps):
        script = Script(grids, steps)
        found = verdicts(script, many_grids(script) - 1)
        rows, columns = shape(script, many_grids(script) - 1)
        self.assertEqual(found, tuple(tuple(verdict(script, many_grids(script) - 1, i, j) for j in range(columns))
                                      for i in range(rows)))
        return found

    ONE = Grid(1, ((M, None), (N, H)))
    OTHER = Grid(1, ((M, D), (None, N)))

    def test_each_step(self):
        grids = (self.ONE, self.OTHER)
        self.assertEqual(self.last(grids), ((M, D), (NOUGHT, N)))
        self.assertEqual(self.last(grids, ("plus", 0, 1)), ((M, D), (N, None)))
        self.assertEqual(self.last(grids, ("times", 0, 1)), ((((2, 1),), N), (M, None)))
        self.assertEqual(self.last(grids, ("turned", 0)), ((M, N), (NOUGHT, H)))
        self.assertEqual(self.last(grids, ("beside", 0, 1)), ((M, NOUGHT, M, D), (N, H, NOUGHT, N)))
        self.assertEqual(self.last(grids, ("above", 0, 1)), ((M, NOUGHT), (N, H), (M, D), (NOUGHT, N)))
        self.assertEqual(self.last(grids, ("piece", 1, 0, 1, 2, 1)), ((D,), (N,)))

    def test_sums(self):
        self.assertEqual(self.last((one_by_one(H), one_by_one(H)), ("plus", 0, 1)), ((H,),))
        self.assertEqual(self.last((one_by_one(H), one_by_one(M)), ("plus", 0, 1)), ((None,),))
        none = Grid(1, ((None,),))
        self.assertEqual(self.last((one_by_one(H), none), ("plus", 0, 1)), ((H,),))
        self.assertEqual(self.last((one_by_one(H), none), ("plus", 1, 0)), ((H,),))
        self.assertEqual(self.last((none, none), ("plus", 1, 0)), ((NOUGHT,),))
        mixed = (("plus", 0, 1), ("plus", 2, 2))
        self.assertEqual(self.last((one_by_one(H), one_by_one(M)), *mixed), ((None,),))
        self.assertEqual(self.last((one_by_one(H), none, one_by_one(M)), ("plus", 0, 2), ("plus", 1, 3)), ((None,),))
        self.assertEqual(self.last((one_by_one(H), none, one_by_one(M)), ("plus", 0, 2), ("plus", 3, 1)), ((None,),))
        self.assertEqual(self.last((one_by_one(H), one_by_one(M)), ("plus", 0, 1), ("plus", 2, 0)), ((None,),))
        self.assertEqual(self.last((one_by_one(H), one_by_one(M)), ("plus", 0, 1), ("plus", 0, 2)), ((None,),))

    def test_products_with_what_has_no_unit(self):
        grids = (one_by_one(H), one_by_one(M), Grid(1, ((None,),)))
        self.assertEqual(self.last(grids, ("plus", 0, 1), ("times", 3, 0)), ((None,),))
        self.assertEqual(self.last(grids, ("plus", 0, 1), ("times", 0, 3)), ((None,),))
        self.assertEqual(self.last(grids, ("plus", 0, 1), ("times", 3, 2)), ((NOUGHT,),))
        self.assertEqual(self.last(grids, ("plus", 0, 1), ("times", 2, 3)), ((NOUGHT,),))
        self.assertEqual(self.last(grids, ("times", 0, 1)), ((((3, 2),),),))

    def test_fractions_as_exponents(self):
        unit = ((1, 3), (-3, 4), (5, 2))
        self.assertEqual(self.last((one_by_one(unit),), ("times", 0, 0)), ((((2, 3), (-3, 2), (5, 1)),),))
        self.assertEqual(self.last((one_by_one(unit),) * 2, ("plus", 0, 1)), ((unit,),))
        other = ((1, 3), (-3, 4), (5, 3))
        self.assertEqual(self.last((one_by_one(unit), one_by_one(other)), ("plus", 0, 1)), ((None,),))
        halves = Grid(1, ((H, H),))
        self.assertEqual(self.last((halves, one_by_one(M)), ("turned", 0), ("times", 0, 2), ("plus", 1, 3)), ((M,),))

    def test_each_base_unit_counts(self):
        for k in range(3):
            other = tuple((1, 1) if at == k else (0, 1) for at in range(3))
            grids = (one_by_one(((0, 1),) * 3), one_by_one(other))
            self.assertEqual(self.last(grids, ("plus", 0, 1)), ((None,),))
            self.assertEqual(self.last(grids, ("times", 0, 1)), ((other,),))

    def test_stars(self):
        self.assertEqual(self.last((one_by_one(N),), ("star", 0)), ((N,),))
        self.assertEqual(self.last((one_by_one(M),), ("star", 0)), ((None,),))
        self.assertEqual(self.last((Grid(1, ((None,),)),), ("star", 0)), ((NOUGHT,),))
        line = Grid(1, ((None, M, None), (None, None, H), (None, None, None)))
        self.assertEqual(self.last((line,), ("star", 0)),
                         ((NOUGHT, M, ((3, 2),)), (NOUGHT, NOUGHT, H), (NOUGHT, NOUGHT, NOUGHT)))
        ring = Grid(1, ((None, M), (D, None)))
        self.assertEqual(self.last((ring,), ("star", 0)), ((N, M), (D, N)))
        self.assertEqual(self.last((Grid(1, ((None, M), (M, None))),), ("star", 0)), ((None, None), (None, None)))
        self.assertEqual(self.last((Grid(1, ((N, M), (D, N))),), ("star", 0)), ((N, M), (D, N)))

    def test_stars_with_two_paths(self):
        rows = [[None] * 4 for _ in range(4)]
        rows[0][1], rows[0][2], rows[1][3], rows[2][3] = M, D, N, ((2, 1),)
        grid = Grid(1, tuple(tuple(row) for row in rows))
        self.assertEqual(self.last((grid,), ("star", 0))[0], (NOUGHT, M, D, M))
        rows[2][3] = M
        grid = Grid(1, tuple(tuple(row) for row in rows))
        self.assertEqual(self.last((grid,), ("star", 0))[0], (NOUGHT, M, D, None))

    def test_only_what_is_on_the_paths_counts(self):
        # A ring with a unit at place 2 is on no path from 0 to 1, and on all from 0 to 2.
        rows = ((None, M, H), (None, None, None), (None, None, M))
        self.assertEqual(self.last((Grid(1, rows),), ("star", 0)),
                         ((NOUGHT, M, None), (NOUGHT, NOUGHT, NOUGHT), (NOUGHT, NOUGHT, None)))
        rows = ((M, M, None), (None, None, M), (None, None, None))
        self.assertEqual(self.last((Grid(1, rows),), ("star", 0)),
                         ((None, None, None), (NOUGHT, NOUGHT, M), (NOUGHT, NOUGHT, NOUGHT)))

    def test_stars_of_what_has_no_unit_here_and_there(self):
        one = Grid(1, ((None, M, None), (None, None, N), (None, None, None)))
        other = Grid(1, ((None, N, None), (None, None, N), (None, None, None)))
        self.assertEqual(self.last((one, other), ("plus", 0, 1), ("star", 2)),
                         ((NOUGHT, None, None), (NOUGHT, NOUGHT, N), (NOUGHT, NOUGHT, NOUGHT)))

    def test_stars_of_stars(self):
        ring = Grid(1, ((None, M), (D, None)))
        self.assertEqual(self.last((ring,), ("star", 0), ("star", 1)), ((N, M), (D, N)))
        line = Grid(1, ((None, M, None), (None, None, H), (None, None, None)))
        self.assertEqual(self.last((line,), ("star", 0), ("star", 1))[0], (NOUGHT, M, ((3, 2),)))
        self.assertEqual(self.last((one_by_one(M),), ("star", 0), ("star", 1)), ((None,),))

    def test_long_lengths(self):
        script = Script((one_by_one(M), one_by_one(D)), tuple(("times", k, k) for k in (0, 2, 3, 4, 5, 6, 7, 8, 9, 10,
                                                                                        11, 12, 13, 14, 15, 16)))
        self.assertEqual(verdict(script, 17, 0, 0), ((2 ** 16, 1),))
        self.assertEqual(least_length(script, 17, 0, 0), 2 ** 16)
        self.assertIsNone(unlike_length(script, 17, 0, 0))
        steps = [("plus", 0, 1)] + [("times", k, k) for k in range(2, 17)]
        script = Script((one_by_one(M), one_by_one(D)), tuple(steps))
        self.assertIsNone(verdict(script, 17, 0, 0))
        self.assertEqual((least_length(script, 17, 0, 0), unlike_length(script, 17, 0, 0)), (2 ** 15, 2 ** 15))
        for call in (least_way, two_ways):
            fails_with(self, TooLong, lambda: call(script, 17, 0, 0), most=2000)

    def test_full_grids_of_twelve(self):
        heights = [(k % 4, 1) for k in range(6)]
        rows = tuple(tuple(((one[0] - other[0], 1),) for other in heights) for one in heights)
        steps = (("beside", 0, 0), ("above", 1, 1), ("star", 2), ("times", 3, 3), ("star", 4))
        script = Script((Grid(1, rows),), steps)
        self.assertEqual(verdicts(script, 5), tuple(row * 2 for row in rows) * 2)
        self.assertEqual(least_length(script, 5, 0, 7), 2)
        self.assertIsNone(unlike_length(script, 5, 0, 7))
        other = retold_in(script, 0, 5, 5, M)
        self.assertEqual(verdicts(other, 5), ((None,) * 12,) * 12)
        self.assertEqual((least_length(other, 5, 0, 7), unlike_length(other, 5, 0, 7)), (2, 3))
        self.assertEqual((least_length(other, 5, 5, 5), unlike_length(other, 5, 5, 5)), (2, 2))

    def test_like_all_units_of_ways(self):
        chance = random.Random(61)
        told = {}
        for _ in range(400):
            script = oracle.random_script(chance, chance.randint(0, 6), most=chance.choice((1, 2, 3)),
                                          fill=chance.choice((0.3, 0.5, 0.7, 1)), plain=chance.random() < 0.7, stars=3)
            units = oracle.Units(script)
            for at in range(many_grids(script)):
                found = verdicts(script, at)
                for i, row in enumerate(found):
                    for j, one in enumerate(row):
                        self.assertEqual(one, units.verdict(at, i, j))
                        self.assertEqual(one, verdict(script, at, i, j))
                        told[str(one)[:1]] = told.get(str(one)[:1], 0) + 1
        self.assertGreater(min(told.values()), 500)

    def test_renamed_grids_and_noughts(self):
        script = Script((self.ONE,), (("star", 0),))
        self.assertEqual(verdicts(script, 1), ((None, NOUGHT), (None, None)))
        self.assertEqual(verdicts(retold_in(retold_in(script, 0, 0, 0, N), 0, 1, 1, None), 1),
                         ((N, NOUGHT), (N, NOUGHT)))

    def test_no_depth(self):
        many = 2500
        grids = (one_by_one(M), one_by_one(N))
        steps = tuple(("times" if k % 2 else "plus", k, 1) for k in range(1, many + 1))
        script = fitting_script(grids, steps, ((1, 1),) * (many + 2))
        self.assertEqual(verdict(script, many + 1, 0, 0), N)
        self.assertEqual(least_length(script, many + 1, 0, 0), 1)
        way = least_way(script, many + 1, 0, 0)
        self.assertIs(is_way(script, many + 1, 0, 0, way), True)
        self.assertEqual(len(needed(script, many + 1, 0, 0)), many + 1)
        again = fitting_script(grids, (("times", 0, 1),) + tuple(("plus", k, 0) for k in range(2, many + 2)),
                                ((1, 1),) * (many + 3))
        pair = two_ways(retold_in(again, 1, 0, 0, H), many + 2, 0, 0)
        self.assertIs(is_two_ways(retold_in(again, 1, 0, 0, H), many + 2, 0, 0, pair), True)


class LengthTest(unittest.TestCase):
    def test_by_hand(self):
        script = Script((one_by_one(M), one_by_one(N)), (("times", 0, 0), ("plus", 2, 1), ("star", 0), ("star", 3)))
        self.assertEqual([least_length(script, at, 0, 0) for at in range(6)], [1, 1, 2, 1, 1, 1])
        self.assertEqual([unlike_length(script, at, 0, 0) for at in range(6)], [None, None, None, 2, 2, 2])
        self.assertEqual(least_way(script, 3, 0, 0), (1, ()))
        self.assertEqual(least_way(script, 5, 0, 0), ((0, 0), ((1, ()),)))
        self.assertEqual(sorted(two_ways(script, 3, 0, 0)), [(0, (0, (), ())), (1, ())])

    def test_noughts(self):
        script = Script((Grid(1, ((None, M), (None, None))),), (("star", 0), ("times", 0, 0)))
        for at, i, j in ((0, 0, 0), (1, 1, 0), (1, 0, 0), (2, 0, 1)):
            for call in (least_length, unlike_length, least_way, two_ways):
                self.assertIsNone(call(script, at, i, j))
            self.assertEqual(verdict(script, at, i, j), NOUGHT)
            self.assertEqual(needed(script, at, i, j), [])

    def test_the_shortest_path(self):
        rows = ((None, M, M, None), (None, None, None, M), (None, M, None, None), (None, None, None, None))
        script = Script((Grid(1, rows),), (("star", 0),))
        self.assertEqual((least_length(script, 1, 0, 3), unlike_length(script, 1, 0, 3)), (2, 3))
        self.assertEqual(least_way(script, 1, 0, 3), ((0, 1, 3), ((), ())))
        self.assertEqual(set(two_ways(script, 1, 0, 3)), {((0, 1, 3), ((), ())), ((0, 2, 1, 3), ((), (), ()))})

    def test_the_unlike_ring_is_far_away(self):
        # From 0 to 0 all short rings are unitless; an unlike one goes through the other five places.
        rows = [[None] * 6 for _ in range(6)]
        for k in range(6):
            rows[k][(k + 1) % 6] = N
        rows[0][0] = N
        rows[5][5] = M
        script = Script((Grid(1, tuple(tuple(row) for row in rows)),), (("star", 0),))
        self.assertEqual((least_length(script, 1, 0, 0), unlike_length(script, 1, 0, 0)), (1, 7))
        self.assertEqual(verdict(script, 1, 0, 0), None)
        self.assertEqual((least_length(script, 1, 4, 0), unlike_length(script, 1, 4, 0)), (2, 3))
        self.assertEqual((least_length(script, 1, 5, 5), unlike_length(script, 1, 5, 5)), (1, 2))

    def test_an_unlike_ring_behind_a_shorter_one(self):
        # From 0 by 1 to 2; at 1 a short ring that is unitless, and a longer one, by 3, that is not.
        cells = {(0, 1): H, (1, 2): N, (1, 1): N, (1, 3): M, (3, 1): N}
        for order in permutations(range(4)):
            rows = [[None] * 4 for _ in range(4)]
            for (p, q), unit in cells.items():
                rows[order[p]][order[q]] = unit
            script = Script((Grid(1, tuple(tuple(row) for row in rows)),), (("star", 0),))
            cell = (1, order[0], order[2])
            self.assertEqual((least_length(script, *cell), unlike_length(script, *cell)), (2, 4))
            self.assertIsNone(verdict(script, *cell))
            pair = two_ways(script, *cell)
            self.assertIs(is_two_ways(script, *cell, pair), True)
            self.assertEqual(sorted(length_of(script, cell, way) for way in pair), [2, 4])
            self.assertEqual(verdict(retold_in(script, 0, order[3], order[1], D), *cell), H)

    def test_stars_of_four_and_five(self):
        chance = random.Random(63)
        for _ in range(40):
            many = chance.choice((4, 4, 5))
            grid = oracle.random_grid(chance, 1, many, many, fill=chance.choice((0.25, 0.35, 0.5)))
            script = Script((grid,), (("star", 0),))
            slow = oracle.Ways(script)
            for i, j in product(range(many), repeat=2):
                least, unlike, found = self.slow_lengths(slow, (1, i, j), 8)
                told_least, told_unlike = least_length(script, 1, i, j), unlike_length(script, 1, i, j)
                self.assertEqual(told_least if (told_least or 99) <= found else None, least)
                self.assertEqual(told_unlike if (told_unlike or 99) <= found else None, unlike)
                self.papers(script, slow, (1, i, j), told_least, told_unlike)

    def test_an_unlike_part_with_a_longer_one(self):
        # The parts' second ways are 3 and 5 long: one of them is enough, and the shorter one is taken.
        steps = [("times", 0, 0), ("times", 2, 0), ("times", 2, 3), ("plus", 1, 3), ("plus", 1, 4), ("times", 5, 6),
                 ("times", 6, 5)]
        script = Script((one_by_one(M), one_by_one(N)), tuple(steps))
        self.assertEqual([unlike_length(script, at, 0, 0) for at in (5, 6, 7, 8)], [3, 5, 4, 4])
        for at in (7, 8):
            pair = two_ways(script, at, 0, 0)
            self.assertEqual(sorted(length_of(script, (at, 0, 0), way) for way in pair), [2, 4])

    def test_of_two_thousand(self):
        for many in (1984, 2000, 2001, 2048):
            grids = (one_by_one(M),)
            steps = []
            last = longest(steps, grids, many)
            script = Script(grids, tuple(steps))
            self.assertEqual(least_length(script, last, 0, 0), many)
            self.assertIsNone(two_ways(script, last, 0, 0))
            if many <= 2000:
                way = least_way(script, last, 0, 0)
                self.assertIs(is_way(script, last, 0, 0, way), True)
                self.assertEqual(bag(script, last, 0, 0, way), {(0, 0, 0): many})
            else:
                fails_with(self, TooLong, lambda: least_way(script, last, 0, 0), most=2000)

    def test_two_ways_of_two_thousand(self):
        for many in (1984, 2000, 2016, 2048):
            # One way is as short as can be, the only one of another unit is long.
            put = Grid(1, ((M,),))
            steps = []
            last = longest(steps, (put, put), many)
            script = Script((put, put), tuple(steps) + (("plus", last, 1),))
            at = many_grids(script) - 1
            self.assertEqual((least_length(script, at, 0, 0), unlike_length(script, at, 0, 0)), (1, many))
            self.assertEqual(least_way(script, at, 0, 0), (1, ()))
            if many <= 2000:
                pair = two_ways(script, at, 0, 0)
                self.assertIs(is_two_ways(script, at, 0, 0, pair), True)
                self.assertEqual(sorted(length_of(script, (at, 0, 0), way) for way in pair), [1, many])
            else:
                fails_with(self, TooLong, lambda: two_ways(script, at, 0, 0), most=2000)

    def test_two_ways_just_too_long(self):
        # The power 2000 of a grid, and the power 2001.
        steps = [("times", k, k) for k in range(10)] + [("times", 10, 9), ("times", 11, 8), ("times", 12, 7)]
        steps += [("times", 13, 6), ("times", 14, 4)]
        grids = (Grid(1, ((M, M), (None, M))),)
        script = Script(grids, tuple(steps))
        self.assertEqual([unlike_length(script, 15, 0, 0), least_length(script, 15, 0, 1)], [None, 2000])
        longer = Script(grids, tuple(steps) + (("times", 15, 0),))
        self.assertEqual(least_length(longer, 16, 0, 1), 2001)
        self.assertEqual(length_of(script, (15, 0, 1), least_way(script, 15, 0, 1)), 2000)
        fails_with(self, TooLong, lambda: least_way(longer, 16, 0, 1), most=2000)
        mixed = Grid(1, ((M, N), (None, M)))
        self.assertEqual(unlike_length(Script((mixed,), tuple(steps)), 15, 0, 1), None)
        mixed = Grid(1, ((M, N), (None, N)))
        script, longer = Script((mixed,), tuple(steps)), Script((mixed,), tuple(steps) + (("times", 15, 0),))
        self.assertEqual([unlike_length(script, 15, 0, 1), unlike_length(longer, 16, 0, 1)], [2000, 2001])
        pair = two_ways(script, 15, 0, 1)
        self.assertIs(is_two_ways(script, 15, 0, 1, pair), True)
        self.assertEqual([length_of(script, (15, 0, 1), way) for way in pair], [2000, 2000])
        fails_with(self, TooLong, lambda: two_ways(longer, 16, 0, 1), most=2000)

    def test_like_all_short_ways(self):
        chance = random.Random(62)
        seen = 0
        for _ in range(250):
            script = oracle.random_script(chance, chance.randint(0, 5), most=chance.choice((1, 2, 3)),
                                          fill=chance.choice((0.3, 0.5, 1)), plain=chance.random() < 0.7)
            slow = oracle.Ways(script)
            for cell in oracle.all_cells(script):
                least, unlike, found = self.slow_lengths(slow, cell, 5)
                told_least, told_unlike = least_length(script, *cell), unlike_length(script, *cell)
                self.assertEqual(told_least if (told_least or 9) <= found else None, least)
                self.assertEqual(told_unlike if (told_unlike or 9) <= found else None, unlike)
                self.assertIs(told_least is None, is_nought(script, *cell))
                self.assertIs(told_unlike is None, verdict(script, *cell) is not None)
                seen += unlike is not None
                self.papers(script, slow, cell, told_least, told_unlike)
        self.assertGreater(seen, 100)

    def slow_lengths(self, slow, cell, most):
        """The two lengths as far as all ways can be listed, and how far this is."""
        least, units = None, set()
        for length in range(1, most + 1):
            ways = slow.of(*cell, length)
            if ways and least is None:
                least = length
            units |= {slow.unit(*cell, way) for way in ways}
            if len(units) > 1:
                return least, length, length
            if len(ways) > 300:
                return least, None, length
        return least, None, most

    def papers(self, script, slow, cell, least, unlike):
        """That ways of these lengths are told."""
        way = least_way(script, *cell)
        self.assertIs(way is None, least is None)
        if way is not None:
            self.assertIs(is_way(script, *cell, way), True)
            self.assertEqual(len(slow.bag(*cell, way)), least)
        pair = two_ways(script, *cell)
        self.assertIs(pair is None, unlike is None)
        if pair is not None:
            self.assertIsInstance(pair, tuple)
            self.assertIs(is_two_ways(script, *cell, pair), True)
            self.assertEqual(max(len(slow.bag(*cell, one)) for one in pair), unlike)
            self.assertNotEqual(*[slow.unit(*cell, one) for one in pair])


class TwoWaysTest(unittest.TestCase):
    SCRIPT = Script((Grid(1, ((M, M), (H, None))),), (("times", 0, 0), ("star", 0), ("plus", 0, 0)))

    def test_right_and_wrong_ones(self):
        one, other, long = ((0, 1), ((),)), ((0, 0, 1), ((), ())), ((0, 1, 0, 1), ((), (), ()))
        longest_one = ((0,) * 3000 + (1,), ((),) * 3000)
        for pair in ((one, other), (other, one), (one, long), (long, other), (one, longest_one), (longest_one, other)):
            self.assertIs(is_two_ways(self.SCRIPT, 2, 0, 1, pair), True)
        alike = ((0, 0, 1, 0, 1), ((),) * 4)
        swapped = ((0, 1, 0, 0, 1), ((),) * 4)
        wrong = [(one, one), (alike, swapped), (one,), (one, other, long), [one, other], (one, list(other)), (one, ()),
                 ((), one), (None, one), (one, None), {0: one, 1: other}, one, (one, ((0, 0), ((),)))]
        for thing in wrong_things() + wrong + [deep_tuple(one), deep_list(one), (deep_tuple(()), one)]:
            self.assertIs(is_two_ways(self.SCRIPT, 2, 0, 1, thing), False)

    def test_alike_and_unlike(self):
        self.assertIs(is_two_ways(self.SCRIPT, 1, 0, 0, ((0, (), ()), (1, (), ()))), True)
        self.assertIs(is_two_ways(self.SCRIPT, 3, 0, 0, ((0, ()), (1, ()))), False)
        self.assertIs(is_two_ways(self.SCRIPT, 0, 0, 0, ((), ())), False)

    def test_units_and_not_lengths_are_compared(self):
        # Two ways of lengths 1 and 2 with one unit, and of length 2 with two units.
        script = Script((one_by_one(H), one_by_one(M)), (("times", 0, 0), ("plus", 1, 2), ("times", 0, 1), ("plus", 3, 4)))
        self.assertEqual(verdict(script, 3, 0, 0), M)
        self.assertIs(is_two_ways(script, 3, 0, 0, ((0, ()), (1, (0, (), ())))), False)
        self.assertIs(is_two_ways(script, 5, 0, 0, ((0, (1, (0, (), ()))), (1, (0, (), ())))), True)
        self.assertEqual(unlike_length(script, 5, 0, 0), 2)


class ErrorsTest(unittest.TestCase):
    SCRIPT = Script((Grid(1, ((M, M, N),)), Grid(1, ((M,), (None,), (H,)))), (("times", 0, 1), ("times", 1, 0)))

    def test_no_grid_then_no_cell(self):
        for call in QUERIES + (lambda *given: is_two_ways(*given, None),):
            for wrong in wrong_numbers() + [4, 5, 10 ** 40]:
                for i, j in ((0, 0), (wrong, wrong), (9, 9)):
                    fails_with(self, NoGrid, lambda: call(self.SCRIPT, wrong, i, j))
                if wrong != 4:
                    for i, j in ((wrong, 0), (0, wrong), (wrong, wrong)):
                        for at in range(4):
                            fails_with(self, NoCell, lambda: call(self.SCRIPT, at, i, j))
            for at, (rows, columns) in enumerate([(1, 3), (3, 1), (1, 1), (3, 3)]):
                for i, j in product(range(5), repeat=2):
                    if i >= rows or j >= columns:
                        fails_with(self, NoCell, lambda: call(self.SCRIPT, at, i, j))
                    else:
                        call(self.SCRIPT, at, i, j)

    def test_no_grid(self):
        for wrong in wrong_numbers() + [4, 5, 10 ** 40]:
            fails_with(self, NoGrid, lambda: verdicts(self.SCRIPT, wrong))

    def test_nothing_that_is_passed_is_changed(self):
        kept = copy.deepcopy(self.SCRIPT)
        thing = [[0, ()], {0: [()]}]
        before = copy.deepcopy(thing)
        self.assertIs(is_two_ways(self.SCRIPT, 2, 0, 0, thing), False)
        self.assertIs(is_two_ways(self.SCRIPT, 2, 0, 0, tuple(thing)), False)
        for call in QUERIES:
            self.assertEqual(call(self.SCRIPT, 3, 0, 1), call(self.SCRIPT, 3, 0, 1))
        self.assertEqual((thing, self.SCRIPT), (before, kept))


class NeededTest(unittest.TestCase):
    def test_each_step(self):
        one, other = Grid(1, ((M, None), (N, H))), Grid(1, ((M, D), (None, N)))

        def told(step, i, j):
            return needed(Script((one, other), (step,)), 2, i, j)

        self.assertEqual(told(("plus", 0, 1), 0, 0), [(0, 0, 0), (1, 0, 0), (2, 0, 0)])
        self.assertEqual(told(("plus", 0, 1), 0, 1), [(1, 0, 1), (2, 0, 1)])
        self.assertEqual(told(("plus", 0, 1), 1, 0), [(0, 1, 0), (2, 1, 0)])
        self.assertEqual(told(("times", 0, 1), 0, 0), [(0, 0, 0), (1, 0, 0), (2, 0, 0)])
        self.assertEqual(told(("times", 0, 1), 1, 1), [(0, 1, 0), (0, 1, 1), (1, 0, 1), (1, 1, 1), (2, 1, 1)])
        self.assertEqual(told(("turned", 0), 0, 1), [(0, 1, 0), (2, 0, 1)])
        self.assertEqual(told(("beside", 0, 1), 1, 1), [(0, 1, 1), (2, 1, 1)])
        self.assertEqual(told(("beside", 0, 1), 0, 3), [(1, 0, 1), (2, 0, 3)])
        self.assertEqual(told(("above", 0, 1), 1, 0), [(0, 1, 0), (2, 1, 0)])
        self.assertEqual(told(("above", 0, 1), 2, 1), [(1, 0, 1), (2, 2, 1)])
        self.assertEqual(told(("piece", 0, 1, 0, 1, 2), 0, 1), [(0, 1, 1), (2, 0, 1)])
        self.assertEqual(told(("star", 0), 1, 0), [(0, 0, 0), (0, 1, 0), (0, 1, 1), (2, 1, 0)])
        self.assertEqual(told(("star", 0), 0, 0), [(0, 0, 0), (2, 0, 0)])
        self.assertEqual(told(("star", 0), 0, 1), [])
        self.assertEqual(needed(Script((one,), ()), 0, 1, 1), [(0, 1, 1)])
        self.assertEqual(needed(Script((one,), ()), 0, 0, 1), [])

    def test_stars(self):
        rows = ((None, M, M, None), (None, None, None, M), (None, None, M, None), (M, None, None, None))
        script = Script((Grid(1, rows),), (("star", 0), ("piece", 1, 0, 3, 1, 1)))
        ring = [(0, 0, 1), (0, 1, 3), (0, 3, 0)]
        self.assertEqual(needed(script, 2, 0, 0), ring + [(1, 0, 3), (2, 0, 0)])
        self.assertEqual(needed(script, 1, 0, 2), [(0, 0, 1), (0, 0, 2), (0, 1, 3), (0, 2, 2), (0, 3, 0), (1, 0, 2)])
        self.assertEqual(needed(script, 1, 2, 2), [(0, 2, 2), (1, 2, 2)])

    def test_a_new_list_each_time(self):
        script = Script((one_by_one(M),), (("star", 0),))
        needed(script, 1, 0, 0).clear()
        self.assertEqual(needed(script, 1, 0, 0), [(0, 0, 0), (1, 0, 0)])

    def test_like_the_ways(self):
        chance = random.Random(65)
        alike = 0
        for _ in range(200):
            script = oracle.random_script(chance, chance.randint(0, 5), most=2, fill=chance.choice((0.4, 0.7)), stars=1)
            slow = oracle.Ways(script)
            for cell in oracle.all_cells(script):
                if len(slow.of(*cell, 4)) > 100:
                    continue
                found = needed(script, *cell)
                self.assertIsInstance(found, list)
                stood = oracle.needed_of(script, slow, *cell, 4)
                self.assertLessEqual(set(stood), set(found))
                # Each needed cell stands in some way, if only in a long one.
                if found != stood and len(slow.of(*cell, 6)) < 300:
                    stood = oracle.needed_of(script, slow, *cell, 8)
                    self.assertEqual(found, stood)
                alike += found == stood and len(found) > 1
        self.assertGreater(alike, 500)


if __name__ == "__main__":
    unittest.main()
