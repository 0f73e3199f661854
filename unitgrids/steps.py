"""Single steps: which are right, what shapes they make, and what they only move."""

from unitgrids.exact import is_index, is_whole

MOST_MADE = 12
# How many items a step of each kind has, its kind among them.
LENGTHS = {"plus": 3, "times": 3, "turned": 2, "beside": 3, "above": 3, "piece": 6, "star": 2}
LENGTH_OF_TWO = 3


def sources(step):
    """The numbers of the grids that a step is made of."""
    if LENGTHS[step[0]] == LENGTH_OF_TWO:
        return step[1:3]
    return step[1:2]


def is_step(thing, many):
    """Whether a thing has the form of a step, and names only the first so many grids."""
    if not isinstance(thing, tuple) or len(thing) == 0 or not isinstance(thing[0], str):
        return False
    if len(thing) != LENGTHS.get(thing[0]) or not all([is_whole(number) for number in thing[1:]]):
        return False
    return all([is_index(number, many) for number in sources(thing)])


def made_shape(shapes, thing):
    """The shape of what a step makes of grids of these shapes, None for what is no step for them."""
    if not is_step(thing, len(shapes)):
        return None
    shape = _fitting_shape(thing, [shapes[number] for number in sources(thing)])
    if shape is None or max(shape) > MOST_MADE:
        return None
    return shape


def _fitting_shape(step, shapes):
    """The shape that a step makes of its own grids' shapes, None if these do not fit."""
    rows, columns = shapes[0]
    if step[0] == "turned":
        return (columns, rows)
    if step[0] == "star":
        return shapes[0] if rows == columns else None
    if step[0] == "piece":
        return _piece_shape(step, rows, columns)
    return _shape_of_two(step[0], shapes[0], shapes[1])


def _piece_shape(step, rows, columns):
    """The shape of a piece, None if it is empty or stands out of so many rows and columns."""
    first_row, first_column, high, wide = step[2:]
    if min(first_row, first_column) < 0 or min(high, wide) < 1:
        return None
    if first_row + high > rows or first_column + wide > columns:
        return None
    return (high, wide)


def _shape_of_two(kind, one, other):
    """The shape that a step makes of two shapes, None if these do not fit."""
    if kind == "plus":
        return one if one == other else None
    if kind == "times":
        return (one[0], other[1]) if one[1] == other[0] else None
    if kind == "beside":
        return (one[0], one[1] + other[1]) if one[0] == other[0] else None
    return (one[0] + other[0], one[1]) if one[1] == other[1] else None


def turned(rows):
    """The columns of rows, as lists."""
    return [list(column) for column in zip(*rows)]


def moved(step, grids):
    """The rows that a step makes which only moves cells, of the lists of all rows ahead of it."""
    one = grids[step[1]]
    if step[0] == "turned":
        return turned(one)
    if step[0] == "above":
        return one + grids[step[2]]
    if step[0] == "beside":
        return [left + right for left, right in zip(one, grids[step[2]])]
    first_row, first_column, high, wide = step[2:]
    return [row[first_column:first_column + wide] for row in one[first_row:first_row + high]]


def came_from(step, shapes, i, j):
    """The cell (grid, row, column) that a step which only moves cells has put at a place."""
    one = step[1]
    rows, columns = shapes[one]
    if step[0] == "turned":
        return (one, j, i)
    if step[0] == "piece":
        return (one, i + step[2], j + step[3])
    if step[0] == "above" and i >= rows:
        return (step[2], i - rows, j)
    if step[0] == "beside" and j >= columns:
        return (step[2], i, j - columns)
    return (one, i, j)
