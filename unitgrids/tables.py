"""Tables: units for cells, and heights for the places of stars, that show that a cell has a unit."""

from unitgrids.cells import Cells
from unitgrids.exact import is_index, is_pair
from unitgrids.recipes import comes_to, products, step_of
from unitgrids.scripts import bases_of, check_cell, many_grids
from unitgrids.units import is_unit, times_unit
from unitgrids.verdicts import needed_cells, verdict_grids

TRIPLE = 3


def _unitless(script):
    return ((0, 1),) * bases_of(script)


def table(script, at, i, j):
    """A table for a cell, None if there is none."""
    check_cell(script, at, i, j)
    found = verdict_grids(script, at)
    if not isinstance(found[at][i][j], tuple):
        return None
    there = Cells().grids_to(script, at)
    units = {}
    heights = {}
    for number, p, q in needed_cells(script, there, at, i, j):
        units[(number, p, q)] = found[number][p][q]
        step = step_of(script, number)
        if step is not None and step[0] == "star":
            for place in _places_between(there, number, p, q):
                heights[(number, p, place)] = _unitless(script) if place == p else found[number][p][place]
    return (units, heights)


def _places_between(there, number, start, end):
    """The places of a star that its paths from one to another come by, both among them."""
    return [place for place in range(len(there[number]))
            if comes_to(there, number, start, place) and comes_to(there, number, place, end)]


def is_table(script, at, i, j, thing):
    """Whether a thing is a table for a cell."""
    check_cell(script, at, i, j)
    if not is_pair(thing) or not isinstance(thing[0], dict) or not isinstance(thing[1], dict):
        return False
    units, heights = thing
    there = Cells().grids_of(script, [True] * many_grids(script))
    if not _are_units(script, there, units) or not _are_heights(script, heights):
        return False
    if (at, i, j) not in units:
        return False
    if not all([_is_unit_shown(script, there, units, heights, key) for key in units]):
        return False
    return all([_is_height_shown(script, there, units, heights, key) for key in heights])


def _begins_with_grid(script, thing):
    """Whether a thing is a triple that begins with the number of a grid."""
    return isinstance(thing, tuple) and len(thing) == TRIPLE and is_index(thing[0], many_grids(script))


def _is_cell_there(script, there, thing):
    """Whether a thing names a cell of the script that is no nought."""
    if not _begins_with_grid(script, thing):
        return False
    number, i, j = thing
    rows, columns = script.shapes[number]
    return is_index(i, rows) and is_index(j, columns) and there[number][i][j]


def _are_units(script, there, thing):
    """Whether a dict leads from cells that are no noughts to units."""
    bases = bases_of(script)
    return all([_is_cell_there(script, there, key) and is_unit(bases, unit) for key, unit in thing.items()])


def _is_height_name(script, thing):
    """Whether a thing names a star's grid and two rows of what it sums."""
    if not _begins_with_grid(script, thing):
        return False
    step = step_of(script, thing[0])
    if step is None or step[0] != "star":
        return False
    return all([is_index(place, script.shapes[thing[0]][0]) for place in thing[1:]])


def _are_heights(script, thing):
    """Whether a dict leads from what names heights to units."""
    bases = bases_of(script)
    return all([_is_height_name(script, key) and is_unit(bases, unit) for key, unit in thing.items()])


def _is_unit_shown(script, there, units, heights, key):
    """Whether the unit of a cell is what is said of the cells that it is made of."""
    number, i, j = key
    step = step_of(script, number)
    if step is None:
        return units[key] == script.grids[number].rows[i][j]
    if step[0] == "star":
        return heights.get(key) == units[key] and heights.get((number, i, i)) == _unitless(script)
    return all([_is_product(units, cells, units[key]) for cells in products(script, there, number, i, j)])


def _is_product(units, cells, unit):
    """Whether cells, one or two, are all told units, which together are this one."""
    if not all([cell in units for cell in cells]):
        return False
    if len(cells) == 1:
        return units[cells[0]] == unit
    return times_unit(units[cells[0]], units[cells[1]]) == unit


def _is_height_shown(script, there, units, heights, key):
    """Whether, from a place of a star, all heights go on that lead to cells with told units."""
    number, start, place = key
    summed = step_of(script, number)[1]
    places = range(script.shapes[number][0])
    ends = [j for j in places if (number, start, j) in units]
    for q in places:
        if there[summed][place][q] and any([comes_to(there, number, q, j) for j in ends]):
            if (summed, place, q) not in units:
                return False
            if heights.get((number, start, q)) != times_unit(heights[key], units[(summed, place, q)]):
                return False
    return True
