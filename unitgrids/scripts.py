"""Scripts: grids that are put in, and the steps that make further ones of them."""

from math import lcm

from unitgrids.cells import Cells
from unitgrids.errors import BadScript, NoCell, NoGrid, NoOrder
from unitgrids.exact import is_index, is_whole
from unitgrids.grids import Grid, bottom, retold
from unitgrids.steps import made_shape, sources

MOST_GRIDS = 6
MOST_STEPS = 16


class Script:
    """Grids with the numbers 0, 1, .., and steps, each of which makes the next grid."""

    def __init__(self, grids, steps):
        if not _are_grids(grids):
            raise BadScript("grids")
        if not isinstance(steps, tuple) or len(steps) > MOST_STEPS:
            raise BadScript("steps")
        self.grids = grids
        self.steps = steps
        self.shapes = _shapes_made([_shape_put_in(grid) for grid in grids], steps)

    def __eq__(self, other):
        return isinstance(other, Script) and self.grids == other.grids and self.steps == other.steps


def _are_grids(thing):
    """Whether a thing is a tuple of as many Grids as a Script may have, with equal bases."""
    if not isinstance(thing, tuple) or not 1 <= len(thing) <= MOST_GRIDS:
        return False
    if not all([isinstance(grid, Grid) for grid in thing]):
        return False
    return all([grid.bases == thing[0].bases for grid in thing])


def _shape_put_in(grid):
    return (len(grid.rows), len(grid.rows[0]))


def _shapes_made(shapes, steps):
    """The shapes of all grids: these, and those that the steps make; BadScript for a wrong step."""
    found = list(shapes)
    for index, step in enumerate(steps):
        made = made_shape(found, step)
        if made is None:
            raise BadScript(index)
        found.append(made)
    return tuple(found)


def fitting_script(grids, steps, shapes):
    """A Script of what is known to fit, which may be greater than one that is constructed."""
    script = Script(grids[:1], ())
    script.grids = grids
    script.steps = steps
    script.shapes = shapes
    return script


def many_grids(script):
    """How many grids there are, those that are put in and those that are made."""
    return len(script.shapes)


def check_grid(script, at):
    """Raise NoGrid for what is no number of a grid."""
    if not is_index(at, many_grids(script)):
        raise NoGrid()


def check_cell(script, at, i, j):
    """Raise NoGrid, or NoCell for what is no row or no column of the grid."""
    check_grid(script, at)
    rows, columns = script.shapes[at]
    if not is_index(i, rows) or not is_index(j, columns):
        raise NoCell()


def shape(script, at):
    """The pair of how many rows and columns a grid has."""
    check_grid(script, at)
    return script.shapes[at]


def bases_of(script):
    """How many base units a script's units have."""
    return script.grids[0].bases


def bottom_of(script):
    """The least common multiple of the bottoms of all exponents that are put in."""
    multiple = 1
    for grid in script.grids:
        multiple = lcm(multiple, bottom(grid))
    return multiple


def is_nought(script, at, i, j):
    """Whether a cell is 0 whatever is put in."""
    check_cell(script, at, i, j)
    return not Cells().grids_to(script, at)[at][i][j]


def retold_in(script, at, i, j, thing):
    """The script with one cell of a grid that is put in told anew."""
    if not is_index(at, len(script.grids)):
        raise NoGrid()
    grids = list(script.grids)
    grids[at] = retold(grids[at], i, j, thing)
    return fitting_script(tuple(grids), script.steps, script.shapes)


def with_step(script, step):
    """The script with a step more."""
    if len(script.steps) >= MOST_STEPS:
        raise BadScript("steps")
    made = made_shape(script.shapes, step)
    if made is None:
        raise BadScript(len(script.steps))
    return fitting_script(script.grids, script.steps + (step,), script.shapes + (made,))


def _is_order(thing, many):
    """Whether a thing is a tuple of all numbers below one."""
    if not isinstance(thing, tuple) or not all([is_whole(number) for number in thing]):
        return False
    return sorted(thing) == list(range(many))


def _renumbered_step(step, numbers):
    """A step that names other numbers for those that it names."""
    named = tuple([numbers[number] for number in sources(step)])
    return step[:1] + named + step[1 + len(named):]


def renamed(script, order):
    """The script in which the grids that are put in stand in another order."""
    many = len(script.grids)
    if not _is_order(order, many):
        raise NoOrder()
    numbers = list(range(many_grids(script)))
    for new, old in enumerate(order):
        numbers[old] = new
    steps = tuple([_renumbered_step(step, numbers) for step in script.steps])
    grids = tuple([script.grids[old] for old in order])
    shapes = tuple([script.shapes[old] for old in order]) + script.shapes[many:]
    return fitting_script(grids, steps, shapes)
