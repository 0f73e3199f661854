"""Powers of numbers, and which of all powers of a grid have a unit, by pairs of places.

What tells of all powers are the pairs of places to which two rows of equally many cells lead from
one place. A TRACE is a pair (weight, pair it came from): the first row of cells weighs so much
more than the second one, which both came by the pair ahead of it; the pair ahead is told with the
index of its own trace, None at the beginning.
"""

from math import gcd

from unitgrids.determinants import check_square_numbers
from unitgrids.errors import NoCell, NoNumber
from unitgrids.exact import as_wholes, is_index, is_pair, is_whole, lowest
from unitgrids.grids import bottom, scaled_rows
from unitgrids.placings import check_square
from unitgrids.steps import turned
from unitgrids.units import together, unit_of, without
from unitgrids.verdicts import NOUGHT, Verdicts, told_verdict

MOST_POWER = 60
MOST_GRID_POWER = 200


def _check_power(many, most):
    """Raise NoNumber for what is no integer from 1 to most."""
    if not is_whole(many) or not 1 <= many <= most:
        raise NoNumber()


def power(numbers, many):
    """The tuple of rows of a power of rows of fractions."""
    check_square_numbers(numbers)
    _check_power(many, MOST_POWER)
    size = len(numbers)
    wholes, common = as_wholes([number for row in numbers for number in row])
    rows, below = _whole_power([wholes[size * i:size * i + size] for i in range(size)], common, many)
    return tuple([tuple([lowest(number, below) for number in row]) for row in rows])


def _whole_power(rows, below, many):
    """A power, from the first one on, of rows of integers that are to be divided by one; likewise."""
    result = None
    square = (rows, below)
    left = many
    while left > 0:
        if left % 2 == 1:
            result = square if result is None else _product(result, square)
        left = left // 2
        if left > 0:
            square = _product(square, square)
    return result


def _product(one, other):
    """The product of rows of integers that are to be divided by one; without what all have in common."""
    columns = turned(other[0])
    below = one[1] * other[1]
    rows = []
    common = below
    for row in one[0]:
        rows.append([sum([first * second for first, second in zip(row, column)]) for column in columns])
        for number in rows[-1]:
            # With bottoms of many digits great parts fall away here, and all that follows is faster.
            common = gcd(common, number) if common > 1 else 1
    if common == 1:
        return (rows, below)
    return ([[number // common for number in row] for row in rows], below // common)


def power_verdict(grid, many, i, j):
    """The verdict on a cell of a power of a grid."""
    check_square(grid)
    _check_power(many, MOST_GRID_POWER)
    if not is_index(i, len(grid.rows)) or not is_index(j, len(grid.rows)):
        raise NoCell()
    algebra = Verdicts(grid.bases, bottom(grid))
    rows = scaled_rows(grid, bottom(grid), NOUGHT)
    columns = turned(rows)
    row = rows[i]
    for _ in range(many - 1):
        row = [algebra.inner(row, column) for column in columns]
    return told_verdict(row[j], bottom(grid))


def _traces(grid):
    """For each pair to which two rows of equally many cells lead from one place: its traces, one or two.

    The first one is of the shortest such rows, the second one of the shortest ones that weigh
    otherwise than these.
    """
    weights = scaled_rows(grid, bottom(grid), None)
    nexts = [[q for q, weight in enumerate(row) if weight is not None] for row in weights]
    found = {(p, p): [((0,) * grid.bases, None)] for p in range(len(weights))}
    waiting = [(pair, 0) for pair in found]
    # Those that wait are told level by level, by the number of cells.
    while len(waiting) > 0:
        further = []
        for pair, index in waiting:
            weight = found[pair][index][0]
            for p in nexts[pair[0]]:
                for q in nexts[pair[1]]:
                    more = without(weights[pair[0]][p], weights[pair[1]][q])
                    if _is_kept(found, (p, q), (together(weight, more), (pair, index))):
                        further.append(((p, q), len(found[(p, q)]) - 1))
        waiting = further
    return found


def _is_kept(found, pair, trace):
    """Whether a trace is the first one of a pair, or the second one and unlike it; then it is kept."""
    traces = found.setdefault(pair, [])
    if len(traces) == 2 or (len(traces) == 1 and traces[0][0] == trace[0]):
        return False
    traces.append(trace)
    return True


def keeps(grid):
    """Whether each cell of each power is nought or has a unit."""
    check_square(grid)
    return _least_clash(_traces(grid)) is None


def _least_clash(found):
    """The rows of pairs by which two rows that weigh unlike lead from one place to one, as short as can be."""
    rows = [_rows_to(found, pair) for pair, traces in found.items() if pair[0] == pair[1] and len(traces) == 2]
    return min(rows, key=len) if len(rows) > 0 else None


def _rows_to(found, pair):
    """The pairs by which a pair's second trace came, itself the last one."""
    rows = []
    place = (pair, 1)
    while place is not None:
        rows.append(place[0])
        place = found[place[0]][place[1]][1]
    return rows[::-1]


def unlike_rows(grid):
    """Two rows of places from one to one that weigh unlike, as short as can be, None if there are none."""
    check_square(grid)
    rows = _least_clash(_traces(grid))
    if rows is None:
        return None
    return (tuple([pair[0] for pair in rows]), tuple([pair[1] for pair in rows]))


def differences(grid):
    """What rows to one place weigh more than rows to another one, for each pair; None if there is no such."""
    check_square(grid)
    found = _traces(grid)
    if _least_clash(found) is not None:
        return None
    scale = bottom(grid)
    told = {}
    for pair in _pairs_led_on(grid):
        if pair in found:
            told[pair] = unit_of(found[pair][0][0], scale)
    return told


def _pairs_led_on(grid):
    """The pairs from which two rows of equally many cells lead to one place."""
    columns = turned(grid.rows)
    aheads = [[p for p, unit in enumerate(column) if unit is not None] for column in columns]
    found = {(p, p): True for p in range(len(columns))}
    waiting = list(found)
    while len(waiting) > 0:
        first, second = waiting.pop()
        for p in aheads[first]:
            for q in aheads[second]:
                if (p, q) not in found:
                    found[(p, q)] = True
                    waiting.append((p, q))
    return list(found)


def _row_weight(weights, row):
    """What a row of places weighs, scaled; None if two neighbours are no cell that isn't nought."""
    weight = ()
    for p, q in zip(row, row[1:]):
        if weights[p][q] is None:
            return None
        weight = weights[p][q] if weight == () else together(weight, weights[p][q])
    return weight


def is_unlike_rows(grid, thing):
    """Whether a thing is two rows of places, equally long, from one to one, that weigh unlike."""
    check_square(grid)
    if not is_pair(thing) or not all([_is_row(grid, row) for row in thing]):
        return False
    one, other = thing
    if len(one) != len(other) or one[0] != other[0] or one[-1] != other[-1]:
        return False
    weights = scaled_rows(grid, bottom(grid), None)
    first = _row_weight(weights, one)
    second = _row_weight(weights, other)
    return first is not None and second is not None and first != second


def _is_row(grid, thing):
    """Whether a thing is a tuple of places, one or more."""
    return isinstance(thing, tuple) and len(thing) > 0 and all([is_index(place, len(grid.rows)) for place in thing])
