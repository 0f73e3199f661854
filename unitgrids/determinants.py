"""Determinants, and which of them have a unit, by placings and by sides."""

from unitgrids.errors import NoSquare
from unitgrids.exact import as_wholes, is_fraction, is_pair, lowest
from unitgrids.grids import MOST_ROWS, bottom, scaled_rows
from unitgrids.placings import check_square, free_columns, is_placing, live, placed_lots
from unitgrids.units import by_unit, is_unit, times_unit, together, unit_of

NOUGHT = "nought"


def _is_square(thing):
    """Whether a thing is a tuple of rows, not too many, each of as many fractions."""
    if not isinstance(thing, tuple) or not 1 <= len(thing) <= MOST_ROWS:
        return False
    if not all([isinstance(row, tuple) and len(row) == len(thing) for row in thing]):
        return False
    return all([is_fraction(number) for row in thing for number in row])


def _unitless(grid):
    return ((0, 1),) * grid.bases


def check_square_numbers(numbers):
    """Raise NoSquare for what is no tuple of 1 to 10 rows, each of as many fractions."""
    if not _is_square(numbers):
        raise NoSquare()


def determinant(numbers):
    """The determinant of rows of fractions."""
    check_square_numbers(numbers)
    rows = []
    below = 1
    for row in numbers:
        wholes, common = as_wholes(row)
        rows.append(wholes)
        below = below * common
    return lowest(whole_determinant(rows), below)


def whole_determinant(rows):
    """The determinant of rows of integers, all reckoned in integers."""
    sign = 1
    before = 1
    left = rows
    while len(left) > 0:
        pivots = [i for i, row in enumerate(left) if row[0] != 0]
        if len(pivots) == 0:
            return 0
        pivot = left[pivots[0]]
        if pivots[0] % 2 == 1:
            sign = -sign
        others = left[:pivots[0]] + left[pivots[0] + 1:]
        # Each such difference can be divided by the pivot before without a rest.
        left = [[(pivot[0] * number - row[0] * ahead) // before for number, ahead in zip(row[1:], pivot[1:])]
                for row in others]
        before = pivot[0]
    return sign * before


def unlike_placings(grid):
    """Up to two pairs (scaled exponents, placing), of unlike units: one for a unit, none for a nought.

    From the last row on, two of unlike units are kept for each lot of columns that the rows ahead
    may take: whatever these weigh, it is added to both.
    """
    scale = bottom(grid)
    lots = placed_lots(grid)
    ends = {lot: [((0,) * grid.bases, ())] for lot in lots[-1]}
    scaled = scaled_rows(grid, scale, None)
    for i in reversed(range(len(grid.rows))):
        ends = {taken: _unlike_ends(scaled[i], taken, ends) for taken in lots[i]}
    return ends[0]


def _unlike_ends(scaled, taken, ends):
    """Up to two of unlike units of what a row and the rows behind it may weigh, and of their columns."""
    found = []
    for column in free_columns(scaled, taken):
        for weight, columns in ends.get(taken | (1 << column), []):
            both = together(scaled[column], weight)
            if len(found) == 0 or (len(found) == 1 and found[0][0] != both):
                found.append((both, (column,) + columns))
    return found


def determinant_verdict(grid):
    """The unit that the determinant has, None if it has none; "nought" without a placing."""
    check_square(grid)
    found = unlike_placings(grid)
    if len(found) == 0:
        return NOUGHT
    if len(found) == 2:
        return None
    return unit_of(found[0][0], bottom(grid))


def two_placings(grid):
    """A pair of placings of unlike units, None if there are none."""
    check_square(grid)
    found = unlike_placings(grid)
    if len(found) < 2:
        return None
    return (found[0][1], found[1][1])


def _placing_unit(grid, placing):
    """The units of a placing's cells together."""
    unit = _unitless(grid)
    for row, column in zip(grid.rows, placing):
        unit = times_unit(unit, row[column])
    return unit


def is_two_placings(grid, thing):
    """Whether a thing is a pair of placings of unlike units."""
    check_square(grid)
    if not is_pair(thing) or not all([is_placing(grid, placing) for placing in thing]):
        return False
    return _placing_unit(grid, thing[0]) != _placing_unit(grid, thing[1])


def _are_side(grid, thing):
    """Whether a thing is a tuple with a unit for each row."""
    if not isinstance(thing, tuple) or len(thing) != len(grid.rows):
        return False
    return all([is_unit(grid.bases, unit) for unit in thing])


def _do_sides_fit(grid, cells, lefts, tops):
    """Whether each of some cells has the unit of its row and of its column together."""
    return all([times_unit(lefts[i], tops[j]) == grid.rows[i][j] for i, j in cells])


def is_sides(grid, thing):
    """Whether a thing is a pair of units for the rows and units for the columns that fit all live cells."""
    check_square(grid)
    if not is_pair(thing) or not all([_are_side(grid, side) for side in thing]):
        return False
    return _do_sides_fit(grid, live(grid), thing[0], thing[1])


def sides(grid):
    """Units for the rows and for the columns that fit all live cells, None if there are none."""
    check_square(grid)
    places = range(len(grid.rows))
    cells = live(grid)
    lefts = {}
    tops = {}
    for i in places:
        if i not in lefts:
            lefts[i] = _unitless(grid)
            _spread(grid, cells, lefts, tops, i)
    found = (tuple([lefts[i] for i in places]), tuple([tops.get(j, _unitless(grid)) for j in places]))
    return found if _do_sides_fit(grid, cells, found[0], found[1]) else None


def _spread(grid, cells, lefts, tops, start):
    """Tell the units of all rows and columns that are joined by cells to a row that is told."""
    waiting = [start]
    while len(waiting) > 0:
        row = waiting.pop()
        for column in [j for i, j in cells if i == row and j not in tops]:
            tops[column] = by_unit(grid.rows[row][column], lefts[row])
            for further in [i for i, j in cells if j == column and i not in lefts]:
                lefts[further] = by_unit(grid.rows[further][column], tops[column])
                waiting.append(further)
