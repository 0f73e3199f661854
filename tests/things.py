"""What several tests take: wrong things of all kinds, and fractions as Python's own."""

from fractions import Fraction

from unitgrids.errors import BadGrid, NoUnit
from unitgrids.grids import Grid
from unitgrids.scripts import Script

DEEP = 40


def deep_tuple(inner):
    for _ in range(DEEP):
        inner = (inner,)
    return inner


def deep_list(inner):
    for _ in range(DEEP):
        inner = [inner]
    return inner


def deep_dict(inner):
    for _ in range(DEEP):
        inner = {0: inner}
    return inner


def wrong_things():
    """Things that are neither integers nor non-empty tuples of what a tuple here may hold."""
    return [
        None, True, False, "", "rows", "(0, 1)", b"", b"ab", bytearray(b"ab"), memoryview(b"ab"),
        (), ((),), [], [0], [(0, 1)], [[0, 1]], {}, {0: 1}, {(0, 1): (0, 1)}, {"rows": None},
        range(2), slice(0, 1), len, int, tuple, object(), Ellipsis, NotImplemented, iter([]),
        deep_tuple(0), deep_tuple(None), deep_list(0), deep_dict(0), deep_tuple({0: [()]}),
        Grid(1, ((None,),)), NoUnit(), BadGrid([0]), Grid, NoUnit, Script,
        Script((Grid(1, ((((1, 1),),),)),), (("star", 0),)),
    ]


def wrong_fractions():
    """All that is no fraction, though some of it is near to one."""
    return wrong_things() + [
        0, 1, -1, 10 ** 40, (1,), (1, 2, 3), (0, 0), (1, 0), (0, 2), (0, -1), (1, -1), (-1, -1), (1, -2),
        (2, 2), (2, 4), (-2, 4), (6, -3), (-6, 4), (10 ** 40, 10 ** 39), (3 * 10 ** 39, 9 * 10 ** 39),
        [1, 1], [0, 1], "11", b"11", {0: 1, 1: 2}, (True, 1), (False, 1), (1, True), (0, True),
        (None, 1), (1, None), ("1", 1), (1, "1"), ((1,), 1), (1, (1,)), (1, [1]), ((1, 1), 1), (1, (1, 1)),
        (1, deep_tuple(1)), (deep_list(1), 1),
    ]


def wrong_numbers():
    """Things that are no integers from 0 on."""
    return wrong_things() + [-1, -2, -10 ** 40, (0,), [0], "0", (0, 0), b"0"]


def fails_with(test, kind, call, **fields):
    """That a call raises an error of just this class, with these fields."""
    with test.assertRaises(kind) as caught:
        call()
    test.assertIs(type(caught.exception), kind)
    test.assertEqual(vars(caught.exception), fields)
    for name, value in fields.items():
        test.assertIs(type(getattr(caught.exception, name)), type(value))


def as_python(fraction):
    return Fraction(fraction[0], fraction[1])


def as_pair(number):
    return (number.numerator, number.denominator)
