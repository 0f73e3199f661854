"""Papers: for each cell a shortest way to it, and a shortest one of another unit, if there is one.

Two are enough for what is made of them. A way with another unit than the shortest one has a part
with another unit than the shortest such part has, and with a shortest part of that kind, all
others being shortest ones, it has another unit, too, and is no longer. A paper is a triple
(length, scaled exponents, what is told of the way). Ways may share their parts, and are never
compared: a way that is made of few parts may be of a length that could not be gone through.
"""

from unitgrids.cells import Cells
from unitgrids.units import exponents, together

EMPTY_PATH = ((), ())


def _best_two(papers):
    """The first shortest one, and the first shortest one of another unit, of a list of papers."""
    best = None
    for paper in papers:
        if best is None or paper[0] < best[0]:
            best = paper
    unlike = None
    for paper in papers:
        if paper[1] != best[1] and (unlike is None or paper[0] < unlike[0]):
            unlike = paper
    return [paper for paper in (best, unlike) if paper is not None]


def _with_side(side, rows):
    """Papers for the ways of a sum, of those of a term."""
    return [[[(length, unit, (side, way)) for length, unit, way in papers] for papers in row] for row in rows]


def _as_legs(rows):
    """The papers with paths of one leg in the place of ways."""
    found = []
    for i, row in enumerate(rows):
        found.append([[(length, unit, ((i, j), (way,))) for length, unit, way in papers]
                      for j, papers in enumerate(row)])
    return found


def _as_products(papers):
    """Papers for the ways of a product, of paths of two legs: the place between them, and these."""
    return [(length, unit, (places[1],) + legs) for length, unit, (places, legs) in papers]


class Shortest(Cells):
    """The papers of each cell, one for what has a unit, two for what has none.

    The classes below this one say what is told of the ways: of a cell that is put in, of two ways
    that are joined, and of no way at all, which goes around a place of a star not even once.
    """

    def __init__(self, bases, scale, standing):
        self.nought = []
        self.scale = scale
        self.unitless = (0,) * bases
        self.standing = standing

    def told_cell(self, number, i, j):
        """What is told of the way that is a cell that is put in."""
        return self.standing

    def joined(self, one, other):
        """What is told of two ways that are joined."""
        return self.standing

    def put_in(self, number, i, j, unit):
        return [(1, exponents(unit, self.scale), self.told_cell(number, i, j))]

    def sum_of(self, one, other):
        return _best_two(one + other)

    def product_of(self, one, other):
        return _best_two([(length + more, together(unit, further), self.joined(first, second))
                          for length, unit, first in one for more, further, second in other])

    def powers_of(self, one):
        # Of all numbers of rounds, none is the shortest, and the shortest of another unit is one round.
        around = [paper for paper in one if paper[1] != self.unitless]
        return [(0, self.unitless, self.standing)] + around[:1]


class Papers(Shortest):
    """Papers with the ways themselves; within products and stars with paths, which are (places, legs)."""

    def __init__(self, bases, scale):
        Shortest.__init__(self, bases, scale, EMPTY_PATH)

    def told_cell(self, number, i, j):
        return ()

    def joined(self, one, other):
        places, legs = one
        further, more = other
        return (places + further[1:], legs + more)

    def sums(self, one, other):
        return super().sums(_with_side(0, one), _with_side(1, other))

    def products(self, one, other):
        rows = super().products(_as_legs(one), _as_legs(other))
        return [[_as_products(papers) for papers in row] for row in rows]

    def stars(self, rows):
        return super().stars(_as_legs(rows))
