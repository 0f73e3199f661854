"""Promises 5.1 and 5.2 (ways, their bags, how many there are, their lists)."""

import copy
import random
import unittest
from fractions import Fraction
from itertools import product

from tests import oracle
from tests.things import as_pair, deep_list, deep_tuple, fails_with, wrong_numbers, wrong_things
from unitgrids.errors import NoCell, NoGrid, NoNumber, NoValues, NoWay, TooMany
from unitgrids.grids import Grid
from unitgrids.reckoning import outcome
from unitgrids.scripts import Script, fitting_script, many_grids, shape
from unitgrids.ways import bag, is_way, many_ways, way_unit, ways, worth

M = ((1, 1), (0, 1))
V = ((1, 2), (-2, 3))
N = ((0, 1), (0, 1))
A = Grid(2, ((M, V), (None, N)))
B = Grid(2, ((V, None), (M, M)))
STEPS = (("plus", 0, 1), ("times", 0, 1), ("turned", 0), ("beside", 0, 1), ("above", 0, 1),
         ("piece", 1, 1, 0, 1, 2), ("star", 0))
PLUS, TIMES, TURNED, BESIDE, ABOVE, PIECE, STAR = range(2, 9)
SCRIPT = Script((A, B), STEPS)
ONE = Grid(1, ((((1, 1),),),))


def summed_to(many):
    """A script whose last grid has one cell, with so many ways of length 1 to it."""
    steps, powers = [], [0]
    while 2 ** len(powers) <= many:
        steps.append(("plus", powers[-1], powers[-1]))
        powers.append(len(steps))
    parts = [number for k, number in enumerate(powers) if many >> k & 1]
    last = parts[0]
    for number in parts[1:]:
        steps.append(("plus", last, number))
        last = len(steps)
    return Script((ONE,), tuple(steps)), last


class IsWayTest(unittest.TestCase):
    RIGHT = [
        (0, 0, 0, ()), (0, 1, 1, ()), (1, 1, 0, ()),
        (PLUS, 0, 0, (0, ())), (PLUS, 0, 0, (1, ())), (PLUS, 0, 1, (0, ())), (PLUS, 1, 0, (1, ())),
        (TIMES, 0, 0, (0, (), ())), (TIMES, 0, 0, (1, (), ())), (TIMES, 1, 1, (1, (), ())),
        (TURNED, 1, 0, ()), (TURNED, 1, 1, ()), (BESIDE, 0, 1, ()), (BESIDE, 0, 2, ()), (BESIDE, 1, 3, ()),
        (ABOVE, 0, 1, ()), (ABOVE, 2, 0, ()), (ABOVE, 3, 1, ()), (PIECE, 0, 0, ()), (PIECE, 0, 1, ()),
        (STAR, 0, 0, ((0, 0), ((),))), (STAR, 0, 0, ((0, 0, 0, 0), ((), (), ()))), (STAR, 0, 1, ((0, 1), ((),))),
        (STAR, 0, 1, ((0, 0, 1, 1), ((), (), ()))), (STAR, 1, 1, ((1, 1, 1), ((), ()))),
    ]
    WRONG = [
        (0, 1, 0, ()), (1, 0, 1, ()), (PLUS, 0, 1, (1, ())), (PLUS, 1, 0, (0, ())), (TIMES, 0, 1, (0, (), ())),
        (TIMES, 1, 0, (0, (), ())), (TURNED, 0, 1, ()), (BESIDE, 1, 0, ()), (BESIDE, 0, 3, ()), (ABOVE, 1, 0, ()),
        (ABOVE, 2, 1, ()), (STAR, 1, 0, ((1, 0), ((),))), (STAR, 0, 1, ((0, 1, 0, 1), ((), (), ()))),
        (0, 0, 0, ((),)), (0, 0, 0, []), (0, 0, 0, 0), (0, 0, 0, None), (0, 0, 0, M), (0, 0, 0, "1"), (0, 0, 0, {}),
        (PLUS, 0, 0, ()), (PLUS, 0, 0, (0,)), (PLUS, 0, 0, (2, ())), (PLUS, 0, 0, (-1, ())), (PLUS, 0, 0, (0, (), ())),
        (PLUS, 0, 0, [0, ()]), (PLUS, 0, 0, (0, [])), (PLUS, 0, 0, (False, ())), (PLUS, 0, 0, (True, ())),
        (PLUS, 0, 0, ("0", ())), (PLUS, 0, 0, (None, ())), (PLUS, 0, 0, ((0,), ())), (PLUS, 0, 0, (0, (0, ()))),
        (PLUS, 0, 0, {0: 0, 1: ()}), (PLUS, 0, 0, (10 ** 40, ())),
        (TIMES, 0, 0, ()), (TIMES, 0, 0, (0, ())), (TIMES, 0, 0, (2, (), ())), (TIMES, 0, 0, (-1, (), ())),
        (TIMES, 0, 0, (0, (), (), ())), (TIMES, 0, 0, [0, (), ()]), (TIMES, 0, 0, (False, (), ())),
        (TIMES, 0, 0, (0, [], ())), (TIMES, 0, 0, (0, (), [])), (TIMES, 0, 0, (0, None, ())), (TIMES, 0, 0, (0, (), 0)),
        (TIMES, 0, 0, ((0, (), ()))[1:]), (TIMES, 0, 0, ((), (), ())), (TIMES, 0, 0, (0, ((), ()))),
        (TURNED, 1, 0, ((),)), (BESIDE, 0, 1, (0, ())), (ABOVE, 2, 0, (1, ())), (PIECE, 0, 0, (0, 0, ())),
        (STAR, 0, 0, ()), (STAR, 0, 0, ((0, 0),)), (STAR, 0, 0, ((0, 0), ())), (STAR, 0, 0, ((0, 0), ((), ()))),
        (STAR, 0, 0, ((0,), ())), (STAR, 0, 0, ((), ())), (STAR, 0, 0, ((0, 0), [()])), (STAR, 0, 0, ([0, 0], ((),))),
        (STAR, 0, 0, [(0, 0), ((),)]), (STAR, 0, 0, ((0, 1), ((),))), (STAR, 0, 0, ((1, 0), ((),))),
        (STAR, 0, 1, ((0, 2, 1), ((), ()))), (STAR, 0, 1, ((0, -1, 1), ((), ()))), (STAR, 0, 1, ((0, 1), (None,))),
        (STAR, 0, 1, ((0, True), ((),))), (STAR, 0, 1, ((False, 1), ((),))), (STAR, 0, 1, ((0, None, 1), ((), ()))),
        (STAR, 0, 1, ((0, 1), ((), ()))), (STAR, 0, 1, ((0, 1), ((),), ())), (STAR, 0, 1, ((0, 0, 1), ((),))),
        (STAR, 0, 1, ((0, 0, 1), ((), ((),)))), (STAR, 0, 1, ((0, "0", 1), ((), ()))), (STAR, 0, 0, (0, ())),
        (STAR, 0, 0, ("00", ((),))), (STAR, 0, 1, ((0, 1), ((0, ()),))), (STAR, 0, 1, (((0, 1), ((),)),)),
    ]

    def test_right_and_wrong_ones(self):
        for at, i, j, thing in self.RIGHT:
            self.assertIs(is_way(SCRIPT, at, i, j, thing), True, (at, i, j, thing))
        for at, i, j, thing in self.WRONG:
            self.assertIs(is_way(SCRIPT, at, i, j, thing), False, (at, i, j, thing))

    def test_ways_of_what_is_made_of_made_grids(self):
        script = Script((ONE,), (("plus", 0, 0), ("times", 1, 1), ("star", 2), ("star", 3), ("turned", 4)))
        way = (0, (1, ()), (0, ()))
        self.assertIs(is_way(script, 2, 0, 0, way), True)
        star = ((0, 0, 0), (way, way))
        self.assertIs(is_way(script, 3, 0, 0, star), True)
        for at in (4, 5):
            self.assertIs(is_way(script, at, 0, 0, ((0, 0), (star,))), True)
            self.assertIs(is_way(script, at, 0, 0, star), False)
        self.assertIs(is_way(script, 3, 0, 0, ((0, 0), ((0, (1, ()), (2, ())),))), False)

    def test_any_thing(self):
        wrong = [thing for thing in wrong_things() if thing != ()] + [5, deep_tuple(()), deep_list(()), (0, deep_tuple(()))]
        wrong += [(0, deep_list(0), ()), ((0, 0), deep_tuple(())), (deep_tuple(0), ((),)), ((0, 0), (deep_list(()),))]
        for at in range(many_grids(SCRIPT)):
            for thing in wrong:
                self.assertIs(is_way(SCRIPT, at, 0, 0, thing), False)
        # Long, though not deep.
        self.assertIs(is_way(SCRIPT, STAR, 0, 0, ((0,) * 5001, ((),) * 5000)), True)
        self.assertIs(is_way(SCRIPT, STAR, 0, 0, ((0,) * 5001, ((),) * 4999 + ([],))), False)

    def test_all_ways_and_no_other(self):
        chance = random.Random(51)
        for _ in range(40):
            script = oracle.random_script(chance, chance.randint(0, 4), most=2)
            slow = oracle.Ways(script)
            cells = list(oracle.all_cells(script))
            found = {cell: {way for length in range(5) for way in slow.of(*cell, length)} for cell in cells}
            if sum(len(told) for told in found.values()) > 1500:
                continue
            all_ways = sorted({way for told in found.values() for way in told}, key=repr)
            for cell in cells:
                for way in chance.sample(all_ways, min(60, len(all_ways))):
                    is_one = is_way(script, *cell, way)
                    if is_one and way not in found[cell]:
                        self.assertGreater(len(slow.bag(*cell, way)), 4)
                    else:
                        self.assertIs(is_one, way in found[cell])


class BagTest(unittest.TestCase):
    def test_by_hand(self):
        self.assertEqual(bag(SCRIPT, 0, 0, 1, ()), {(0, 0, 1): 1})
        self.assertEqual(bag(SCRIPT, PLUS, 0, 0, (1, ())), {(1, 0, 0): 1})
        self.assertEqual(bag(SCRIPT, TIMES, 0, 0, (1, (), ())), {(0, 0, 1): 1, (1, 1, 0): 1})
        self.assertEqual(bag(SCRIPT, TURNED, 1, 0, ()), {(0, 0, 1): 1})
        self.assertEqual(bag(SCRIPT, BESIDE, 1, 2, ()), {(1, 1, 0): 1})
        self.assertEqual(bag(SCRIPT, ABOVE, 3, 1, ()), {(1, 1, 1): 1})
        self.assertEqual(bag(SCRIPT, PIECE, 0, 1, ()), {(1, 1, 1): 1})
        way = ((0, 0, 0, 1, 1), ((),) * 4)
        self.assertEqual(bag(SCRIPT, STAR, 0, 1, way), {(0, 0, 0): 2, (0, 0, 1): 1, (0, 1, 1): 1})

    def test_units_and_worths_by_hand(self):
        values = ((((2, 3), (5, 1)), ((0, 1), (1, 7))), (((3, 1), (0, 1)), ((1, 2), (11, 1))))
        way = ((0, 0, 0, 1, 1), ((),) * 4)
        self.assertEqual(way_unit(SCRIPT, STAR, 0, 1, way), ((5, 2), (-2, 3)))
        self.assertEqual(worth(SCRIPT, STAR, 0, 1, way, values), as_pair(Fraction(2, 3) ** 2 * 5 / 7))
        self.assertEqual(way_unit(SCRIPT, TIMES, 0, 0, (1, (), ())), ((3, 2), (-2, 3)))
        self.assertEqual(worth(SCRIPT, TIMES, 0, 0, (1, (), ()), values), (5, 2))
        self.assertEqual(way_unit(SCRIPT, PLUS, 0, 0, (1, ())), V)
        self.assertEqual(worth(SCRIPT, PLUS, 0, 0, (1, ()), values), (3, 1))
        self.assertEqual(way_unit(SCRIPT, 0, 1, 1, ()), N)
        self.assertEqual(worth(SCRIPT, 0, 1, 1, (), values), (1, 7))

    def test_bags_are_new(self):
        one, other = bag(SCRIPT, 0, 0, 0, ()), bag(SCRIPT, 0, 0, 0, ())
        one[(9, 9, 9)] = 1
        self.assertEqual((other, bag(SCRIPT, 0, 0, 0, ())), ({(0, 0, 0): 1}, {(0, 0, 0): 1}))

    def test_like_the_oracle(self):
        chance = random.Random(52)
        for _ in range(60):
            script = oracle.random_script(chance, chance.randint(1, 5), most=2, plain=chance.random() < 0.5)
            slow = oracle.Ways(script)
            values = oracle.random_values(chance, script)
            for cell in oracle.all_cells(script):
                for way in [way for length in range(1, 4) for way in slow.of(*cell, length)][:8]:
                    cells = slow.bag(*cell, way)
                    self.assertEqual(bag(script, *cell, way), {part: cells.count(part) for part in cells})
                    self.assertEqual(way_unit(script, *cell, way), slow.unit(*cell, way))
                    self.assertEqual(worth(script, *cell, way, values), as_pair(slow.worth(*cell, way, values)))

    def test_long_ways(self):
        script = Script((ONE,), tuple(("times", k, k) for k in range(12)))
        way = ()
        for _ in range(12):
            way = (0, way, way)
        self.assertEqual(bag(script, 12, 0, 0, way), {(0, 0, 0): 4096})
        self.assertEqual(way_unit(script, 12, 0, 0, way), ((4096, 1),))
        self.assertEqual(worth(script, 12, 0, 0, way, ((((1, 2),),),)), (1, 2 ** 4096))

    def test_no_depth(self):
        many = 2500
        script = fitting_script((ONE,), tuple(("plus", k, 0) for k in range(many)), ((1, 1),) * (many + 1))
        way = ()
        for _ in range(many):
            way = (0, way)
        self.assertIs(is_way(script, many, 0, 0, way), True)
        self.assertEqual(bag(script, many, 0, 0, way), {(0, 0, 0): 1})
        self.assertEqual(many_ways(script, many, 0, 0, 1), many + 1)
        self.assertEqual(len(ways(script, 1500, 0, 0, 1)), 1501)


class ErrorsTest(unittest.TestCase):
    CALLS = (
        lambda at, i, j, thing: is_way(SCRIPT, at, i, j, thing), lambda at, i, j, thing: bag(SCRIPT, at, i, j, thing),
        lambda at, i, j, thing: way_unit(SCRIPT, at, i, j, thing),
        lambda at, i, j, thing: worth(SCRIPT, at, i, j, thing, thing),
        lambda at, i, j, thing: many_ways(SCRIPT, at, i, j, thing),
        lambda at, i, j, thing: ways(SCRIPT, at, i, j, thing),
    )

    def test_no_grid_then_no_cell(self):
        for call in self.CALLS:
            for wrong in wrong_numbers() + [9, 10 ** 40]:
                fails_with(self, NoGrid, lambda: call(wrong, 0, 0, ()))
                fails_with(self, NoGrid, lambda: call(wrong, wrong, wrong, wrong))
                for i, j in ((wrong, 0), (0, wrong), (wrong, wrong)):
                    fails_with(self, NoCell, lambda: call(TIMES, i, j, ()))
                    fails_with(self, NoCell, lambda: call(0, i, j, wrong))

    def test_no_way_then_no_values(self):
        wrong = [thing for thing in wrong_things() if thing != ()] + [(0, ()), 5, (0, 0)]
        for thing in wrong:
            fails_with(self, NoWay, lambda: bag(SCRIPT, 0, 0, 0, thing))
            fails_with(self, NoWay, lambda: way_unit(SCRIPT, 0, 0, 0, thing))
            for values in (None, (), wrong):
                fails_with(self, NoWay, lambda: worth(SCRIPT, 0, 0, 0, thing, values))
        for at, i, j, thing in IsWayTest.WRONG:
            fails_with(self, NoWay, lambda: bag(SCRIPT, at, i, j, thing))
            fails_with(self, NoWay, lambda: way_unit(SCRIPT, at, i, j, thing))
            fails_with(self, NoWay, lambda: worth(SCRIPT, at, i, j, thing, None))
        numbers = ((((2, 3), (5, 1)), ((0, 1), (0, 1))), (((3, 1), (0, 1)), ((1, 2), (11, 1))))
        for values in wrong_things() + [numbers, numbers[:1], list(numbers)]:
            fails_with(self, NoValues, lambda: worth(SCRIPT, 0, 0, 0, (), values))

    def test_no_number(self):
        for length in wrong_numbers() + [21, 22, 100, 10 ** 40]:
            for at in (0, TIMES, STAR):
                fails_with(self, NoNumber, lambda: many_ways(SCRIPT, at, 0, 0, length))
                fails_with(self, NoNumber, lambda: ways(SCRIPT, at, 0, 0, length))

    def test_nothing_that_is_passed_is_changed(self):
        kept = copy.deepcopy(SCRIPT)
        thing = [0, [(), ()], {"a": 1}]
        before = copy.deepcopy(thing)
        for call in self.CALLS[1:]:
            with self.assertRaises((NoWay, NoNumber)):
                call(TIMES, 0, 0, thing)
        self.assertIs(is_way(SCRIPT, TIMES, 0, 0, thing), False)
        self.assertEqual((thing, SCRIPT), (before, kept))


class ListTest(unittest.TestCase):
    def test_by_hand(self):
        self.assertEqual(ways(SCRIPT, 0, 0, 0, 1), [()])
        self.assertEqual(ways(SCRIPT, 0, 1, 0, 1), [])
        self.assertEqual(ways(SCRIPT, PLUS, 0, 0, 1), [(0, ()), (1, ())])
        self.assertEqual(ways(SCRIPT, TIMES, 0, 0, 2), [(0, (), ()), (1, (), ())])
        self.assertEqual(ways(SCRIPT, TURNED, 1, 0, 1), [()])
        self.assertEqual(ways(SCRIPT, STAR, 0, 1, 1), [((0, 1), ((),))])
        self.assertEqual(ways(SCRIPT, STAR, 0, 1, 3), [((0, 0, 0, 1), ((),) * 3), ((0, 0, 1, 1), ((),) * 3),
                                                       ((0, 1, 1, 1), ((),) * 3)])

    def test_order_across_lengths_of_parts(self):
        # A part of length 2 may stand ahead of one of length 1, and one of length 3 between them.
        script = Script((ONE,), (("times", 0, 0), ("times", 1, 0), ("plus", 1, 2), ("plus", 3, 0), ("times", 4, 4)))
        slow = oracle.Ways(script)
        for length in range(7):
            found = ways(script, 5, 0, 0, length)
            self.assertEqual(found, sorted(found))
            self.assertEqual(found, slow.of(5, 0, 0, length))
        self.assertEqual(len(ways(script, 5, 0, 0, 4)), 3)
        star = Script((ONE,), (("times", 0, 0), ("plus", 1, 0), ("star", 2), ("star", 3)))
        slow = oracle.Ways(star)
        for at, length in product((3, 4), range(7)):
            self.assertEqual(ways(star, at, 0, 0, length), slow.of(at, 0, 0, length))

    def test_lengths_0_and_20(self):
        for at in range(many_grids(SCRIPT)):
            rows, columns = shape(SCRIPT, at)
            for i, j in product(range(rows), range(columns)):
                self.assertEqual((many_ways(SCRIPT, at, i, j, 0), ways(SCRIPT, at, i, j, 0)), (0, []))
                if at != STAR:
                    self.assertEqual((many_ways(SCRIPT, at, i, j, 20), ways(SCRIPT, at, i, j, 20)), (0, []))
        self.assertEqual(ways(SCRIPT, STAR, 0, 0, 20), [((0,) * 21, ((),) * 20)])
        self.assertEqual(many_ways(SCRIPT, STAR, 0, 1, 20), 20)
        self.assertEqual(ways(SCRIPT, STAR, 0, 1, 20),
                         [((0,) * k + (1,) * (21 - k), ((),) * 20) for k in range(20, 0, -1)])
        twice = Script((ONE,), (("star", 0), ("star", 1), ("times", 1, 2)))
        self.assertEqual([many_ways(twice, at, 0, 0, 20) for at in range(4)], [0, 1, 2 ** 19, 2 ** 19 - 1])
        full = Script((Grid(1, ((((1, 1),),) * 10,) * 10),), (("star", 0),))
        self.assertEqual([many_ways(full, 1, 2, 3, length) for length in (1, 2, 20)], [1, 10, 10 ** 19])

    def test_two_thousand_ways(self):
        for many in (1, 2, 3, 1984, 2000):
            script, last = summed_to(many)
            self.assertEqual(many_ways(script, last, 0, 0, 1), many)
            found = ways(script, last, 0, 0, 1)
            self.assertEqual(len(found), many)
            self.assertEqual(found, sorted(set(found)))
            self.assertTrue(all(is_way(script, last, 0, 0, way) for way in found))
        for many in (2001, 2048, 65536):
            script, last = summed_to(many)
            self.assertEqual(many_ways(script, last, 0, 0, 1), many)
            fails_with(self, TooMany, lambda: ways(script, last, 0, 0, 1), most=2000)
            self.assertEqual(ways(script, last, 0, 0, 2), [])

    def test_two_thousand_ways_with_stars(self):
        # 2 to the power 10 of them, and 2 to the power 11.
        script = Script((Grid(1, ((((1, 1),),) * 2,) * 2),), (("star", 0),))
        self.assertEqual(len(ways(script, 1, 0, 0, 11)), 1024)
        self.assertEqual(many_ways(script, 1, 0, 0, 12), 2048)
        fails_with(self, TooMany, lambda: ways(script, 1, 0, 0, 12), most=2000)
        fails_with(self, TooMany, lambda: ways(script, 1, 0, 0, 20), most=2000)

    def test_more_ways_than_can_be_gone_through(self):
        steps = (("plus", 0, 0), ("plus", 1, 1), ("star", 2), ("star", 3), ("times", 4, 4))
        script = Script((Grid(1, ((((1, 1),),) * 10,) * 10),), steps)
        # With t for a length: 4t is each cell, all ten by ten; a star of c of these is c / (1 - 10c).
        self.assertEqual([many_ways(script, 3, 0, 0, length) for length in (1, 2, 3)], [4, 160, 6400])
        self.assertEqual([many_ways(script, 4, 0, 0, length) for length in (1, 2, 3)], [4, 320, 25600])
        self.assertEqual(many_ways(script, 4, 0, 0, 20), 4 * 80 ** 19)
        self.assertEqual(many_ways(script, 5, 0, 0, 20), 19 * 10 * 16 * 80 ** 18)

    def test_lists_are_new(self):
        found = ways(SCRIPT, PLUS, 0, 0, 1)
        found.clear()
        self.assertEqual(ways(SCRIPT, PLUS, 0, 0, 1), [(0, ()), (1, ())])
        empty = ways(SCRIPT, PLUS, 0, 0, 2)
        empty.append(1)
        self.assertEqual(ways(SCRIPT, PLUS, 0, 0, 2), [])

    def test_like_the_oracle(self):
        chance = random.Random(53)
        many = 0
        for _ in range(150):
            script = oracle.random_script(chance, chance.randint(0, 5), most=chance.choice((1, 2, 2, 3)),
                                          fill=chance.choice((0.3, 0.6, 1)))
            slow = oracle.Ways(script)
            for cell in oracle.all_cells(script):
                for length in range(6):
                    if many_ways(script, *cell, length) > 200:
                        break
                    found = slow.of(*cell, length)
                    self.assertEqual(many_ways(script, *cell, length), len(found))
                    self.assertEqual(ways(script, *cell, length), found)
                    many += len(found)
        self.assertGreater(many, 2000)

    def test_the_first_fact(self):
        chance = random.Random(54)
        for _ in range(40):
            script = oracle.random_script(chance, 3, stars=0, most=2)
            values = oracle.random_values(chance, script)
            for at, i, j in oracle.all_cells(script):
                total = Fraction(0)
                for length in range(9):
                    for way in ways(script, at, i, j, length):
                        total += Fraction(*worth(script, at, i, j, way, values))
                self.assertEqual(outcome(script, values, at)[i][j], as_pair(total))


if __name__ == "__main__":
    unittest.main()
