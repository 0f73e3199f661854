"""Placings: unlike columns for all rows of a grid, in cells that are no noughts.

A lot of columns is told by the integer that has the bits with their numbers.
"""

from itertools import combinations

from unitgrids.errors import NotSquare
from unitgrids.exact import is_index


def check_square(grid):
    """Raise NotSquare for a grid with other numbers of rows and columns."""
    if len(grid.rows) != len(grid.rows[0]):
        raise NotSquare()


def free_columns(row, taken):
    """The columns of a row's cells that are no noughts, but for those that are taken."""
    return [column for column, unit in enumerate(row) if unit is not None and (taken >> column) & 1 == 0]


def placed_lots(grid):
    """For each number of rows: a dict from the lots of columns that so many first rows may take to how many ways."""
    lots = [{0: 1}]
    for row in grid.rows:
        longer = {}
        for taken, many in lots[-1].items():
            for column in free_columns(row, taken):
                lot = taken | (1 << column)
                longer[lot] = longer.get(lot, 0) + many
        lots.append(longer)
    return lots


def open_lots(grid):
    """As placed_lots, but only those with which all rows behind can be placed, too; True for each."""
    placed = placed_lots(grid)
    lots = [{} for _ in grid.rows] + [{lot: True for lot in placed[-1]}]
    for i in reversed(range(len(grid.rows))):
        for taken in placed[i]:
            if any([taken | (1 << column) in lots[i + 1] for column in free_columns(grid.rows[i], taken)]):
                lots[i][taken] = True
    return lots


def many_placings(grid):
    """How many placings there are."""
    check_square(grid)
    return sum(list(placed_lots(grid)[-1].values()))


def least_placing(grid):
    """The least placing, None if there is none."""
    check_square(grid)
    lots = open_lots(grid)
    if 0 not in lots[0]:
        return None
    taken = 0
    columns = []
    for i, row in enumerate(grid.rows):
        fitting = [column for column in free_columns(row, taken) if taken | (1 << column) in lots[i + 1]]
        columns.append(fitting[0])
        taken = taken | (1 << fitting[0])
    return tuple(columns)


def live(grid):
    """The ascending list of the cells that some placing has."""
    check_square(grid)
    lots = open_lots(grid)
    found = {}
    for i, row in enumerate(grid.rows):
        for taken in lots[i]:
            for column in free_columns(row, taken):
                if taken | (1 << column) in lots[i + 1]:
                    found[(i, column)] = True
    return sorted(found)


def is_placing(grid, thing):
    """Whether a thing is a placing of a grid."""
    many = len(grid.rows)
    if not isinstance(thing, tuple) or len(thing) != many:
        return False
    if not all([is_index(column, many) for column in thing]) or len(set(thing)) != many:
        return False
    return all([row[column] is not None for row, column in zip(grid.rows, thing)])


def _is_short_of_columns(grid, lot):
    """Whether the cells of a lot of rows that aren't nought stand in fewer columns than it has rows."""
    columns = [column for i in lot for column in free_columns(grid.rows[i], 0)]
    return len(set(columns)) < len(lot)


def starving(grid):
    """A smallest lot of rows with too few columns, None if there is none."""
    check_square(grid)
    many = len(grid.rows)
    for size in range(1, many + 1):
        for lot in combinations(range(many), size):
            if _is_short_of_columns(grid, lot):
                return lot
    return None


def is_starving(grid, thing):
    """Whether a thing is a lot of rows with too few columns."""
    check_square(grid)
    if not isinstance(thing, tuple) or not all([is_index(i, len(grid.rows)) for i in thing]):
        return False
    if any([first >= second for first, second in zip(thing, thing[1:])]):
        return False
    return _is_short_of_columns(grid, thing)
