"""Promises 3.1 and 3.2: scripts, their shapes and noughts, and scripts made of others."""

import copy
import random
import unittest
from itertools import permutations, product

from tests import oracle
from tests.things import deep_list, deep_tuple, fails_with, wrong_numbers, wrong_things
from unitgrids.errors import BadScript, NoCell, NoGrid, NoOrder, NoUnit
from unitgrids.grids import Grid
from unitgrids.scripts import (Script, bottom_of, fitting_script, is_nought, many_grids, renamed, retold_in,
                               shape, with_step)

U = ((1, 1),)
W = ((-1, 2),)
N = ((0, 1),)
ONE = Grid(1, ((U,),))


def full(rows, columns, unit=U):
    return Grid(len(unit), ((unit,) * columns,) * rows)


def wrong_steps():
    """What is no step for grids of 2 and 3, 3 and 2, 2 and 2 rows and columns."""
    steps = wrong_things() + ["plus", ("plus",), ("plus", 2), ("plus", 2, 2, 2), ("Plus", 2, 2), ("", 2, 2)]
    steps += [(b"plus", 2, 2), (None, 2, 2), (0, 2, 2), (("plus",), 2, 2), (["plus"], 2, 2), ["plus", 2, 2]]
    steps += [("minus", 2, 2), ("plus ", 2, 2), ({}, 2, 2), (True, 2, 2), {0: "plus", 1: 2, 2: 2}]
    for kind in ("plus", "times", "beside", "above"):
        for thing in wrong_numbers() + [30, 10 ** 40]:
            steps += [(kind, thing, 2), (kind, 2, thing), (kind, thing, thing)]
        steps += [(kind, 2), (kind, 2, 2, 2), (kind, 2, 2, None), [kind, 2, 2], (kind, (2, 2)), (kind, [2], 2)]
    for kind in ("turned", "star"):
        steps += [(kind, thing) for thing in wrong_numbers() + [30, 10 ** 40]]
        steps += [(kind,), (kind, 2, 2), [kind, 2], (kind, None, 2)]
    for thing in wrong_numbers():
        right = ("piece", 2, 0, 0, 1, 1)
        for place in range(1, 6):
            steps.append(right[:place] + (thing,) + right[place + 1:])
    steps += [("piece", 2, 0, 0, 1), ("piece", 2, 0, 0, 1, 1, 1), ("piece", 2), ("piece", 30, 0, 0, 1, 1)]
    steps += [("piece", 2, 0, 0, 0, 1), ("piece", 2, 0, 0, 1, 0), ("piece", 2, 0, 0, 3, 1), ("piece", 2, 0, 0, 1, 3)]
    steps += [("piece", 2, 2, 0, 1, 1), ("piece", 2, 0, 2, 1, 1), ("piece", 2, 1, 0, 2, 1), ("piece", 2, 0, 1, 1, 2)]
    steps += [("piece", 0, 0, 0, 3, 2), ("piece", 1, 0, 0, 2, 3), ("piece", 2, -1, 0, 1, 1), ("piece", 2, 0, -1, 1, 1)]
    steps += [("plus", 0, 1), ("plus", 1, 2), ("plus", 2, 0), ("times", 0, 0), ("times", 1, 1), ("times", 0, 2)]
    steps += [("beside", 0, 1), ("beside", 1, 2), ("above", 0, 1), ("above", 0, 2), ("star", 0), ("star", 1)]
    return steps


SHAPED = (full(2, 3), full(3, 2), full(2, 2))


class ScriptTest(unittest.TestCase):
    def bad(self, part, grids, steps):
        fails_with(self, BadScript, lambda: Script(grids, steps), part=part)

    def test_it_keeps_what_it_was_made_of(self):
        steps = (("times", 0, 1), ("plus", 2, 3), ("turned", 0), ("piece", 4, 0, 1, 2, 1), ("star", 4))
        script = Script(SHAPED, steps)
        self.assertEqual((script.grids, script.steps), (SHAPED, steps))
        self.assertEqual(many_grids(script), 8)
        self.assertEqual([shape(script, at) for at in range(8)],
                         [(2, 3), (3, 2), (2, 2), (2, 2), (2, 2), (3, 2), (2, 1), (2, 2)])

    def test_how_many_grids(self):
        for many in range(1, 7):
            script = Script((ONE,) * many, ())
            self.assertEqual((many_grids(script), len(script.grids)), (many, many))
            self.assertEqual([shape(script, at) for at in range(many)], [(1, 1)] * many)

    def test_wrong_grids(self):
        wrong = wrong_things() + [ONE, [ONE], {0: ONE}, (ONE,) * 7, (ONE,) * 8, (ONE, None), (None, ONE), 5]
        wrong += [(ONE, full(1, 1, U * 2)), (full(1, 1, U * 3), ONE, ONE), (ONE, ONE, full(1, 1, U * 2))]
        wrong += [((ONE,),), (ONE.rows,), (ONE, Grid), (ONE, Script((ONE,), ())), deep_tuple(ONE), deep_list(ONE)]
        for grids in wrong:
            for steps in ((), None, [], (None,), (("plus", 0, 0),), (("plus", 9, 9),)):
                self.bad("grids", grids, steps)

    def test_wrong_steps_as_a_whole(self):
        wrong = [thing for thing in wrong_things() if not isinstance(thing, tuple)]
        wrong += [5, [("turned", 0)], {0: ("turned", 0)}, (("turned", 0),) * 17, (None,) * 17, "turned"]
        for steps in wrong:
            self.bad("steps", (ONE,), steps)

    def test_how_many_steps(self):
        for many in (0, 1, 2, 15, 16):
            steps = tuple(("plus", k, k) for k in range(many))
            script = Script((ONE,), steps)
            self.assertEqual((script.steps, many_grids(script)), (steps, many + 1))
            self.assertEqual(shape(script, many), (1, 1))

    def test_each_wrong_step(self):
        for step in wrong_steps():
            self.bad(0, SHAPED, (step,))
            self.bad(0, SHAPED, (step, step))
            self.bad(2, SHAPED, (("turned", 0), ("star", 2), step, ("turned", 0)))

    def test_the_first_wrong_step_is_named(self):
        self.bad(1, (ONE,), (("turned", 0), 5, None))
        self.bad(0, (ONE,), (("turned", 1), ("turned", 0), 5))
        self.bad(15, (ONE,), (("turned", 0),) * 15 + (("turned", 16),))
        self.bad(0, (ONE,), ((),))

    def test_steps_name_only_grids_that_are_there(self):
        for many in range(4):
            steps = (("turned", 0),) * many
            for number in range(many + 4):
                for step in (("turned", number), ("plus", number, 0), ("above", 0, number),
                             ("piece", number, 0, 0, 1, 1)):
                    if number < many + 2:
                        self.assertEqual(many_grids(Script((ONE, ONE), steps + (step,))), many + 3)
                    else:
                        self.bad(many, (ONE, ONE), steps + (step,))

    def test_shapes_of_two(self):
        sizes = list(product((1, 2, 3), repeat=2))
        for one, other in product(sizes, repeat=2):
            grids = (full(*one), full(*other))
            fitting = {"plus": one if one == other else None,
                       "times": (one[0], other[1]) if one[1] == other[0] else None,
                       "beside": (one[0], one[1] + other[1]) if one[0] == other[0] else None,
                       "above": (one[0] + other[0], one[1]) if one[1] == other[1] else None}
            for kind, made in fitting.items():
                if made is None:
                    self.bad(0, grids, ((kind, 0, 1),))
                else:
                    self.assertEqual(shape(Script(grids, ((kind, 0, 1),)), 2), made)

    def test_shapes_of_one(self):
        for one in product((1, 2, 3, 10), repeat=2):
            script = Script((full(*one),), (("turned", 0),))
            self.assertEqual(shape(script, 1), (one[1], one[0]))
            if one[0] == one[1]:
                self.assertEqual(shape(Script((full(*one),), (("star", 0),)), 1), one)
            else:
                self.bad(0, (full(*one),), (("star", 0),))

    def test_pieces(self):
        grid = full(2, 3)
        numbers = range(-1, 5)
        for i, j, rows, columns in product(numbers, repeat=4):
            step = ("piece", 0, i, j, rows, columns)
            if min(i, j) >= 0 and min(rows, columns) >= 1 and i + rows <= 2 and j + columns <= 3:
                self.assertEqual(shape(Script((grid,), (step,)), 1), (rows, columns))
            else:
                self.bad(0, (grid,), (step,))
        for great in (10 ** 40, -10 ** 40):
            for place in range(1, 6):
                step = ("piece", 0, 0, 0, 1, 1)
                self.bad(0, (grid,), (step[:place] + (great,) + step[place + 1:],))

    def test_twelve_rows_and_columns(self):
        for high, wide in ((10, 2), (2, 10), (6, 6), (9, 3)):
            tall, short = full(high, 3), full(wide, 3)
            self.assertEqual(shape(Script((tall, short), (("above", 0, 1),)), 2), (12, 3))
            turned = (("turned", 0), ("turned", 1), ("beside", 2, 3))
            self.assertEqual(shape(Script((tall, short), turned), 4), (3, 12))
            more = full(wide + 1, 3) if wide < 10 else full(high + 1, 3)
            last = (tall, more) if wide < 10 else (more, short)
            self.bad(0, last, (("above", 0, 1),))
            self.bad(2, last, turned)
        steps = (("above", 0, 0), ("beside", 0, 0), ("times", 1, 2), ("star", 3), ("piece", 4, 11, 11, 1, 1))
        script = Script((full(6, 6),), steps)
        self.assertEqual([shape(script, at) for at in range(6)],
                         [(6, 6), (12, 6), (6, 12), (12, 12), (12, 12), (1, 1)])
        self.bad(5, (full(6, 6),), steps + (("above", 3, 5),))
        self.bad(5, (full(6, 6),), steps + (("beside", 4, 1),))

    def test_equal_if_grids_and_steps_are(self):
        one = Script((ONE, ONE), (("plus", 0, 1),))
        self.assertTrue(one == Script((Grid(1, ((U,),)), ONE), (("plus", 0, 1),)))
        self.assertFalse(one != Script((Grid(1, ((U,),)), ONE), (("plus", 0, 1),)))
        others = [Script((ONE, ONE), (("plus", 1, 0),)), Script((ONE, ONE), ()), Script((ONE,), (("plus", 0, 0),))]
        others += [Script((ONE, full(1, 1, W)), (("plus", 0, 1),)), Script((ONE,) * 3, (("plus", 0, 1),))]
        for other in others:
            self.assertFalse(one == other)
            self.assertTrue(one != other)

    def test_equal_to_nothing_of_another_class(self):
        class Twin:
            grids, steps, shapes = (ONE,), (), ((1, 1),)

        script = Script((ONE,), ())
        things = [thing for thing in wrong_things() if not isinstance(thing, Script)]
        for thing in things + [Twin(), (ONE,), ((ONE,), ()), [(ONE,), ()], ONE, {"grids": (ONE,), "steps": ()}]:
            self.assertIs(script == thing, False)
            self.assertIs(thing == script, False)


class CellTest(unittest.TestCase):
    SCRIPT = Script(SHAPED, (("times", 0, 1), ("above", 0, 0)))

    def test_no_grid(self):
        for at in wrong_numbers() + [5, 6, 10 ** 40]:
            fails_with(self, NoGrid, lambda: shape(self.SCRIPT, at))
            for i, j in ((0, 0), (None, None), (9, 9), (at, at)):
                fails_with(self, NoGrid, lambda: is_nought(self.SCRIPT, at, i, j))
                fails_with(self, NoGrid, lambda: retold_in(self.SCRIPT, at, i, j, None))
                fails_with(self, NoGrid, lambda: retold_in(self.SCRIPT, at, i, j, 5))

    def test_no_cell(self):
        for at, (rows, columns) in enumerate([(2, 3), (3, 2), (2, 2), (2, 2), (4, 3)]):
            for thing in wrong_numbers() + [10 ** 40]:
                for i, j in ((thing, 0), (0, thing), (thing, thing), (9, thing)):
                    fails_with(self, NoCell, lambda: is_nought(self.SCRIPT, at, i, j))
            for i, j in product(range(-1, 6), repeat=2):
                if 0 <= i < rows and 0 <= j < columns:
                    self.assertIs(is_nought(self.SCRIPT, at, i, j), False)
                else:
                    fails_with(self, NoCell, lambda: is_nought(self.SCRIPT, at, i, j))


class BottomTest(unittest.TestCase):
    def test_of_all_grids_that_are_put_in(self):
        for bottoms in product((1, 2, 3, 4), repeat=3):
            grids = tuple(Grid(2, ((((1, below), (1, 1)), None),)) for below in bottoms)
            least = next(k for k in range(1, 13) if all(k % below == 0 for below in bottoms))
            self.assertEqual(bottom_of(Script(grids, ())), least)
            self.assertEqual(bottom_of(Script(grids, (("plus", 0, 1), ("turned", 2)))), least)
        self.assertEqual(bottom_of(Script((Grid(1, ((None,),)),), (("star", 0),))), 1)


class NoughtTest(unittest.TestCase):
    def noughts(self, grids, step):
        script = Script(grids, (step,))
        at = len(grids)
        rows, columns = shape(script, at)
        return [[is_nought(script, at, i, j) for j in range(columns)] for i in range(rows)]

    def test_by_hand(self):
        one = Grid(1, ((U, None), (None, None)))
        other = Grid(1, ((None, None), (None, U)))
        cross = Grid(1, ((None, U), (None, None)))
        self.assertEqual(self.noughts((one, other), ("plus", 0, 1)), [[False, True], [True, False]])
        self.assertEqual(self.noughts((one, other), ("times", 0, 1)), [[True, True], [True, True]])
        self.assertEqual(self.noughts((one, cross), ("times", 0, 1)), [[True, False], [True, True]])
        self.assertEqual(self.noughts((cross,), ("turned", 0)), [[True, True], [False, True]])
        self.assertEqual(self.noughts((one, cross), ("beside", 0, 1)),
                         [[False, True, True, False], [True, True, True, True]])
        self.assertEqual(self.noughts((one, cross), ("above", 1, 0)),
                         [[True, False], [True, True], [False, True], [True, True]])
        self.assertEqual(self.noughts((cross,), ("piece", 0, 0, 1, 2, 1)), [[False], [True]])
        self.assertEqual(self.noughts((one,), ("star", 0)), [[False, True], [True, True]])

    def test_stars(self):
        ring = Grid(1, ((None, U, None), (None, None, U), (U, None, None)))
        line = Grid(1, ((None, U, None), (None, None, U), (None, None, None)))
        self.assertEqual(self.noughts((ring,), ("star", 0)), [[False] * 3] * 3)
        self.assertEqual(self.noughts((line,), ("star", 0)),
                         [[True, False, False], [True, True, False], [True, True, True]])
        self.assertEqual(self.noughts((Grid(1, ((None,),)),), ("star", 0)), [[True]])
        self.assertEqual(self.noughts((ONE,), ("star", 0)), [[False]])

    def test_of_what_is_put_in(self):
        script = Script((Grid(1, ((U, None), (None, W))),), ())
        self.assertEqual([is_nought(script, 0, i, j) for i, j in product(range(2), repeat=2)],
                         [False, True, True, False])

    def test_all_noughts_and_none(self):
        empty = Grid(1, ((None,) * 3,) * 3)
        for step in (("plus", 0, 0), ("times", 0, 0), ("turned", 0), ("beside", 0, 0), ("above", 0, 0),
                     ("piece", 0, 1, 1, 2, 2), ("star", 0)):
            self.assertTrue(all(all(row) for row in self.noughts((empty,), step)))
            self.assertFalse(any(any(row) for row in self.noughts((full(3, 3),), step)))

    def test_like_the_ways(self):
        chance = random.Random(32)
        for _ in range(150):
            script = oracle.random_script(chance, chance.randint(0, 5), fill=chance.choice((0.3, 0.5, 0.8)))
            units = oracle.Units(script)
            for at, i, j in oracle.all_cells(script):
                self.assertIs(is_nought(script, at, i, j), units.verdict(at, i, j) == "nought")


class RetoldTest(unittest.TestCase):
    def test_each_cell_that_is_put_in(self):
        steps = (("times", 0, 1), ("star", 2))
        script = Script(SHAPED, steps)
        for at, grid in enumerate(SHAPED):
            for i, row in enumerate(grid.rows):
                for j, thing in product(range(len(row)), (None, W, ((6, 1),), ((-5, 4),))):
                    rows = [list(line) for line in grid.rows]
                    rows[i][j] = thing
                    grids = list(SHAPED)
                    grids[at] = Grid(1, tuple(tuple(line) for line in rows))
                    found = retold_in(script, at, i, j, thing)
                    self.assertIsInstance(found, Script)
                    self.assertEqual(found, Script(tuple(grids), steps))
                    self.assertEqual(shape(found, 3), (2, 2))
                    self.assertEqual(script, Script(SHAPED, steps))

    def test_only_grids_that_are_put_in(self):
        script = Script((ONE,), (("turned", 0), ("turned", 0)))
        for at in (1, 2, 3, -1, True, None):
            fails_with(self, NoGrid, lambda: retold_in(script, at, 0, 0, None))
            fails_with(self, NoGrid, lambda: retold_in(script, at, 5, 5, 5))

    def test_no_cell_and_no_unit(self):
        script = Script((full(2, 3), ONE), ())
        wrong = [thing for thing in wrong_things() if thing is not None]
        wrong += [U * 2, ((7, 1),), ((1, 5),), ((2, 4),), (1, 1), "nought", [(1, 1)]]
        for thing in wrong:
            fails_with(self, NoUnit, lambda: retold_in(script, 0, 1, 2, thing))
            for i, j in ((2, 0), (0, 3), (thing, 0), (1, thing), (None, 0)):
                fails_with(self, NoCell, lambda: retold_in(script, 0, i, j, thing))


class WithStepTest(unittest.TestCase):
    def test_one_more(self):
        script = Script(SHAPED, ())
        steps = (("times", 0, 1), ("star", 3), ("above", 0, 0), ("piece", 5, 3, 2, 1, 1), ("turned", 0))
        for many, step in enumerate(steps):
            longer = with_step(script, step)
            self.assertEqual(script, Script(SHAPED, steps[:many]))
            self.assertEqual(longer, Script(SHAPED, steps[:many + 1]))
            self.assertEqual(shape(longer, many + 3), shape(Script(SHAPED, steps[:many + 1]), many + 3))
            script = longer

    def test_wrong_steps(self):
        script = Script(SHAPED, ())
        for many in range(4):
            for step in wrong_steps():
                fails_with(self, BadScript, lambda: with_step(script, step), part=many)
            for step in (("turned", many + 3), ("plus", many + 3, 0), ("plus", 2, many + 3), ("star", many + 4)):
                fails_with(self, BadScript, lambda: with_step(script, step), part=many)
            script = with_step(script, ("star", 2))

    def test_sixteen_steps(self):
        for many in (14, 15, 16):
            script = Script((ONE,), (("turned", 0),) * many)
            if many < 16:
                self.assertEqual(len(with_step(script, ("turned", many)).steps), many + 1)
                fails_with(self, BadScript, lambda: with_step(script, ("turned", many + 1)), part=many)
            else:
                for step in wrong_things() + [("turned", 0), ("turned", 17)]:
                    fails_with(self, BadScript, lambda: with_step(script, step), part="steps")

    def test_greater_than_twelve(self):
        script = Script((full(6, 6),), (("above", 0, 0),))
        fails_with(self, BadScript, lambda: with_step(script, ("above", 0, 1)), part=1)
        self.assertEqual(shape(with_step(script, ("turned", 1)), 2), (6, 12))


class RenamedTest(unittest.TestCase):
    def test_by_hand(self):
        script = Script(SHAPED, (("times", 0, 1), ("plus", 3, 2), ("piece", 1, 0, 0, 2, 1), ("star", 3)))
        found = renamed(script, (2, 0, 1))
        grids = (SHAPED[2], SHAPED[0], SHAPED[1])
        steps = (("times", 1, 2), ("plus", 3, 0), ("piece", 2, 0, 0, 2, 1), ("star", 3))
        self.assertEqual(found, Script(grids, steps))
        self.assertEqual([shape(found, at) for at in range(7)], [shape(Script(grids, steps), at) for at in range(7)])
        self.assertEqual(script.grids, SHAPED)

    def test_pieces_keep_their_places(self):
        script = Script((full(4, 4), full(3, 3, W)), (("piece", 0, 1, 0, 1, 1), ("piece", 1, 0, 1, 1, 1)))
        found = renamed(script, (1, 0))
        self.assertEqual(found.steps, (("piece", 1, 1, 0, 1, 1), ("piece", 0, 0, 1, 1, 1)))

    def test_all_orders(self):
        grids = tuple(full(1, 1, ((k, 1),)) for k in range(4))
        steps = (("plus", 0, 3), ("times", 1, 4), ("above", 2, 5), ("turned", 3), ("beside", 7, 0))
        script = Script(grids, steps)
        for order in permutations(range(4)):
            found = renamed(script, order)
            self.assertEqual(found.grids, tuple(grids[old] for old in order))
            back = tuple(order.index(k) for k in range(4))
            self.assertEqual(renamed(found, back), script)
            for step, new in zip(steps, found.steps):
                for old_name, new_name in zip(step[1:], new[1:]):
                    self.assertEqual(new_name, order.index(old_name) if old_name < 4 else old_name)
        self.assertEqual(renamed(script, (0, 1, 2, 3)), script)

    def test_no_order(self):
        wrong = wrong_things() + [(0,), (1,), (0, 1, 2), (0, 0), (1, 1), (0, 2), (1, 2), (-1, 0), (True, 0)]
        wrong += [(0, True), (False, 1), [0, 1], [1, 0], (1, None), ("0", "1"), ((0,), (1,)), (0, [1]), "01", b"\x00\x01"]
        script = Script((ONE, full(1, 2)), (("turned", 0),))
        for order in wrong:
            fails_with(self, NoOrder, lambda: renamed(script, order))
        fails_with(self, NoOrder, lambda: renamed(Script((ONE,), (("turned", 0),)), (0, 1)))
        self.assertEqual(renamed(Script((ONE,), ()), (0,)), Script((ONE,), ()))


class GreatScriptTest(unittest.TestCase):
    """What a later function returns may be greater than what is constructed."""

    def great(self, many):
        steps = tuple(("plus", k, k) for k in range(many))
        return fitting_script((ONE,), steps, ((1, 1),) * (many + 1))

    def test_no_depth(self):
        script = self.great(3000)
        self.assertEqual((many_grids(script), shape(script, 3000)), (3001, (1, 1)))
        self.assertIs(is_nought(script, 3000, 0, 0), False)
        told = retold_in(script, 0, 0, 0, None)
        self.assertEqual((len(told.steps), is_nought(told, 3000, 0, 0)), (3000, True))
        self.assertEqual(renamed(script, (0,)), script)
        fails_with(self, BadScript, lambda: with_step(script, ("turned", 0)), part="steps")

    def test_many_grids_that_are_put_in(self):
        grids = tuple(full(1, 1, ((k % 7, 1),)) for k in range(20))
        script = fitting_script(grids, (("plus", 0, 19),), ((1, 1),) * 21)
        found = renamed(script, tuple(reversed(range(20))))
        self.assertEqual((found.grids, found.steps), (grids[::-1], (("plus", 19, 0),)))
        self.assertEqual(retold_in(script, 19, 0, 0, None).grids[:19], grids[:19])
        self.assertEqual(len(with_step(script, ("turned", 20)).steps), 2)


class UnchangedTest(unittest.TestCase):
    def test_nothing_that_is_passed_is_changed(self):
        script = Script(SHAPED, (("times", 0, 1),))
        kept = copy.deepcopy(script)
        for thing in ([0, 1], {0: [1]}, [[("plus", 0, 0)]], ([ONE], {"a": 1}), ["plus", 0, 0]):
            before = copy.deepcopy(thing)
            for call in (lambda: Script(thing, thing), lambda: Script((ONE,), thing), lambda: Script((ONE,), (thing,)),
                         lambda: with_step(script, thing), lambda: renamed(script, thing),
                         lambda: retold_in(script, 0, 0, 0, thing), lambda: shape(script, thing)):
                with self.assertRaises((BadScript, NoOrder, NoUnit, NoGrid)):
                    call()
            self.assertEqual(thing, before)
        self.assertEqual(script, kept)


if __name__ == "__main__":
    unittest.main()
