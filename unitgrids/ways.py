"""Ways, as which each cell of a script is multiplied out."""

from unitgrids.cells import Cells
from unitgrids.errors import NoNumber, NoValues, NoWay, TooMany
from unitgrids.exact import is_index, is_pair, plus, raised, times
from unitgrids.listing import listed_ways
from unitgrids.reckoning import are_all_values
from unitgrids.recipes import step_of
from unitgrids.scripts import bases_of, check_cell
from unitgrids.steps import came_from

MOST_LENGTH = 20
MOST_WAYS = 2000


class Counts(Cells):
    """How many ways of each length, up to a greatest one, lead to each cell."""

    def __init__(self, most):
        self.most = most
        self.nought = [0] * (most + 1)

    def put_in(self, number, i, j, unit):
        return [1 if length == 1 else 0 for length in range(self.most + 1)]

    def sum_of(self, one, other):
        return [first + second for first, second in zip(one, other)]

    def product_of(self, one, other):
        found = [0] * (self.most + 1)
        for length, many in enumerate(one):
            if many > 0:
                for further in range(self.most + 1 - length):
                    found[length + further] += many * other[further]
        return found

    def powers_of(self, one):
        found = [1] + [0] * self.most
        for length in range(1, self.most + 1):
            found[length] = sum([one[first] * found[length - first] for first in range(1, length + 1)])
        return found


def _parts_of_star(script, step, i, j, thing):
    """The legs that something tells as a way of a star, each as (grid, row, column, leg); None if wrong."""
    if not is_pair(thing):
        return None
    places, legs = thing
    many = script.shapes[step[1]][0]
    if not isinstance(places, tuple) or not all([is_index(place, many) for place in places]):
        return None
    if len(places) < 2 or places[0] != i or places[-1] != j:
        return None
    if not isinstance(legs, tuple) or len(legs) != len(places) - 1:
        return None
    return [(step[1], p, q, leg) for p, q, leg in zip(places, places[1:], legs)]


def _parts_of_way(script, step, i, j, thing):
    """The ways that something tells as parts of a way, each as (grid, row, column, way); None if wrong."""
    if step[0] == "star":
        return _parts_of_star(script, step, i, j, thing)
    if step[0] == "plus":
        if not is_pair(thing) or not is_index(thing[0], 2):
            return None
        return [(step[1 + thing[0]], i, j, thing[1])]
    if step[0] == "times":
        if not isinstance(thing, tuple) or len(thing) != 3 or not is_index(thing[0], script.shapes[step[1]][1]):
            return None
        return [(step[1], i, thing[0], thing[1]), (step[2], thing[0], j, thing[2])]
    number, row, column = came_from(step, script.shapes, i, j)
    return [(number, row, column, thing)]


def _told_bag(script, at, i, j, thing):
    """The bag of a way to a cell, None for what is none."""
    found = {}
    waiting = [(at, i, j, thing)]
    while len(waiting) > 0:
        number, row, column, part = waiting.pop()
        step = step_of(script, number)
        if step is not None:
            further = _parts_of_way(script, step, row, column, part)
            if further is None:
                return None
            waiting.extend(further)
        elif not isinstance(part, tuple) or len(part) > 0 or script.grids[number].rows[row][column] is None:
            return None
        else:
            found[(number, row, column)] = found.get((number, row, column), 0) + 1
    return found


def is_way(script, at, i, j, thing):
    """Whether a thing is a way to a cell."""
    check_cell(script, at, i, j)
    return _told_bag(script, at, i, j, thing) is not None


def bag(script, at, i, j, way):
    """The dict from the cells that are put in to how often they stand in a way."""
    check_cell(script, at, i, j)
    found = _told_bag(script, at, i, j, way)
    if found is None:
        raise NoWay()
    return found


def worth(script, at, i, j, way, values):
    """The product of the values of the cells that stand in a way."""
    found = bag(script, at, i, j, way)
    if not are_all_values(script, values):
        raise NoValues()
    result = (1, 1)
    for (number, row, column), many in found.items():
        result = times(result, raised(values[number][row][column], many))
    return result


def way_unit(script, at, i, j, way):
    """The sum of the units of the cells that stand in a way."""
    result = ((0, 1),) * bases_of(script)
    for (number, row, column), many in bag(script, at, i, j, way).items():
        unit = script.grids[number].rows[row][column]
        result = tuple([plus(first, times(second, (many, 1))) for first, second in zip(result, unit)])
    return result


def _counts_to(script, at, i, j, length):
    """How many ways lead to the cells of all grids of which one is made: NoGrid, NoCell, NoNumber."""
    check_cell(script, at, i, j)
    if not is_index(length, MOST_LENGTH + 1):
        raise NoNumber()
    return Counts(length).grids_to(script, at)


def many_ways(script, at, i, j, length):
    """How many ways of a length lead to a cell."""
    return _counts_to(script, at, i, j, length)[at][i][j][length]


def ways(script, at, i, j, length):
    """The ascending list of the ways of a length to a cell."""
    counts = _counts_to(script, at, i, j, length)
    many = counts[at][i][j][length]
    if many > MOST_WAYS:
        raise TooMany(MOST_WAYS)
    if many == 0:
        return []
    return listed_ways(script, counts, at, i, j, length)
