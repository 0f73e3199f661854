"""Own numbers, and whether all together have a unit, by rings of places and by heights."""

from unitgrids.cells import Cells
from unitgrids.determinants import check_square_numbers, whole_determinant
from unitgrids.exact import as_wholes, is_index, is_pair, lowest
from unitgrids.grids import bottom, scaled_rows
from unitgrids.papers import Papers
from unitgrids.placings import check_square
from unitgrids.units import by_unit, is_unit, times_unit, together, unit_of
from unitgrids.verdicts import NOUGHT, Verdicts


def own_polynomial(numbers):
    """The fractions by which the determinant of x less the numbers is written, from the highest power down."""
    check_square_numbers(numbers)
    many = len(numbers)
    rows = [as_wholes(row) for row in numbers]
    below = 1
    for _, common in rows:
        below = below * common
    found = []
    for x in range(many + 1):
        found.append(whole_determinant([_less_from(x, i, wholes, common) for i, (wholes, common) in enumerate(rows)]))
    return tuple([lowest(number, below) for number in reversed(_by_powers(found))])


def _less_from(x, i, wholes, common):
    """A row of integers, which belong to fractions with a common bottom, taken from x in its place."""
    return [x * common - number if j == i else -number for j, number in enumerate(wholes)]


def _by_powers(found):
    """The integers by which a polynomial is written, from the power 0 up, of what it is at 0, 1, .."""
    # Divided by k, .., 1, the k-th differences are the integers by which it is written with
    # x (x - 1) .. (x - k + 1).
    steps = []
    left = found
    while len(left) > 0:
        steps.append(left[0])
        left = [(after - before) // len(steps) for before, after in zip(left, left[1:])]
    powers = []
    for k in reversed(range(len(steps))):
        raised = [0] + powers
        kept = powers + [0]
        powers = [one - k * other for one, other in zip(raised, kept)]
        powers[0] = powers[0] + steps[k]
    return powers


def is_ring(grid, thing):
    """Whether a thing is a ring: unlike places, the least one first, each of which leads to the next one."""
    check_square(grid)
    many = len(grid.rows)
    if not isinstance(thing, tuple) or len(thing) == 0 or not all([is_index(place, many) for place in thing]):
        return False
    if len(set(thing)) != len(thing) or thing[0] != min(thing):
        return False
    return all([grid.rows[p][q] is not None for p, q in _ring_cells(thing)])


def _ring_cells(ring):
    """The cells that a ring of places comes by."""
    return list(zip(ring, ring[1:] + ring[:1]))


def _ring_weight(weights, ring):
    """The sum of the weights of a ring's cells."""
    weight = weights[ring[-1]][ring[0]]
    for p, q in zip(ring, ring[1:]):
        weight = together(weight, weights[p][q])
    return weight


def _weights(grid):
    """The rows of scaled exponents, None for noughts."""
    return scaled_rows(grid, bottom(grid), None)


def _shortest_ring(grid, weights, but_zero):
    """A shortest ring, or one of those that don't weigh zero; None if there is none.

    A round that comes by a place twice is two rounds, both shorter, and not both weigh zero if it
    does not: so a shortest one is a ring.
    """
    algebra = Papers(grid.bases, 1)
    rows = [[[] if weight is None else [(1, weight, ())] for weight in row] for row in weights]
    best = None
    for place, row in enumerate(algebra.stars(rows)):
        for paper in row[place]:
            if (best is None or paper[0] < best[0]) and not (but_zero and paper[1] == algebra.unitless):
                best = paper
    if best is None:
        return None
    ring = best[2][0][1:]
    least = ring.index(min(ring))
    return ring[least:] + ring[:least]


def _evened_weights(grid, ring):
    """The weights, each as often as a ring is long, less what the ring weighs: they are zero for rings like it."""
    weights = _weights(grid)
    whole = _ring_weight(weights, ring)
    found = []
    for row in weights:
        found.append([None if weight is None else tuple([len(ring) * one - other for one, other in zip(weight, whole)])
                      for weight in row])
    return found


def two_rings(grid):
    """A pair of rings that weigh unlike for their lengths, None if there are none."""
    check_square(grid)
    ring = _shortest_ring(grid, _weights(grid), False)
    if ring is None:
        return None
    other = _shortest_ring(grid, _evened_weights(grid, ring), True)
    return None if other is None else (ring, other)


def is_two_rings(grid, thing):
    """Whether a thing is a pair of rings that weigh unlike for their lengths."""
    check_square(grid)
    if not is_pair(thing) or not all([is_ring(grid, ring) for ring in thing]):
        return False
    weights = _weights(grid)
    one = _ring_weight(weights, thing[0])
    other = _ring_weight(weights, thing[1])
    return any([first * len(thing[1]) != second * len(thing[0]) for first, second in zip(one, other)])


def _mean_unit(grid, ring):
    """What a ring weighs by its length."""
    return unit_of(_ring_weight(_weights(grid), ring), bottom(grid) * len(ring))


def own_verdict(grid):
    """The unit of all own numbers together, None if there is none; "nought" without a ring."""
    check_square(grid)
    ring = _shortest_ring(grid, _weights(grid), False)
    if ring is None:
        return NOUGHT
    if _shortest_ring(grid, _evened_weights(grid, ring), True) is not None:
        return None
    return _mean_unit(grid, ring)


def _leads(grid):
    """For each two places whether cells that are no noughts, one or more, lead from one to the other."""
    return Cells().stars([[unit is not None for unit in row] for row in grid.rows])


def own_heights(grid):
    """A unit and a height for each place by which all rings weigh alike, None if there are none."""
    found = own_verdict(grid)
    if found is None:
        return None
    unitless = ((0, 1),) * grid.bases
    if found == NOUGHT:
        return (unitless, (unitless,) * len(grid.rows))
    ring = _shortest_ring(grid, _weights(grid), False)
    evened = _evened_weights(grid, ring)
    rows = Verdicts(grid.bases, 1).stars([[NOUGHT if weight is None else weight for weight in row] for row in evened])
    leads = _leads(grid)
    heights = []
    for q in range(len(grid.rows)):
        firsts = [p for p in range(q) if leads[p][q] and leads[q][p]]
        heights.append(unit_of(rows[firsts[0]][q], bottom(grid) * len(ring)) if len(firsts) > 0 else unitless)
    return (found, tuple(heights))


def is_own_heights(grid, thing):
    """Whether a thing is a unit and a height for each place by which all rings weigh alike."""
    check_square(grid)
    many = len(grid.rows)
    if not is_pair(thing) or not isinstance(thing[1], tuple) or len(thing[1]) != many:
        return False
    if not is_unit(grid.bases, thing[0]) or not all([is_unit(grid.bases, height) for height in thing[1]]):
        return False
    leads = _leads(grid)
    unit, heights = thing
    for p in range(many):
        for q in range(many):
            if grid.rows[p][q] is not None and (p == q or leads[q][p]):
                if times_unit(heights[p], by_unit(grid.rows[p][q], unit)) != heights[q]:
                    return False
    return True
