"""What the ways to a cell are made of: the cells whose ways are put together.

Where it is needed which cells are noughts, there is given what the class Cells tells of all grids.
"""

from unitgrids.steps import came_from


def step_of(script, number):
    """The step that makes a grid, None for one that is put in."""
    many = len(script.grids)
    if number < many:
        return None
    return script.steps[number - many]


def recipes(script, number, i, j):
    """For each kind of way to a cell that a step makes, but a star: what it begins with, and its cells.

    A way is this beginning, and behind it a way to each of the cells, if there is one to each; a
    way without a beginning is the way to its only cell itself.
    """
    step = step_of(script, number)
    if step[0] == "plus":
        return [((side,), ((step[1 + side], i, j),)) for side in range(2)]
    if step[0] == "times":
        return [((k,), ((step[1], i, k), (step[2], k, j))) for k in range(script.shapes[step[1]][1])]
    return [((), (came_from(step, script.shapes, i, j),))]


def products(script, there, number, i, j):
    """The tuples of cells, none a nought, whose ways together are the ways to a cell of a step but a star."""
    found = [cells for _, cells in recipes(script, number, i, j)]
    return [cells for cells in found if all([there[grid][p][q] for grid, p, q in cells])]


def comes_to(there, number, start, place):
    """Whether a star's cells lead from a place to another one, by none or more of them."""
    return start == place or there[number][start][place]


def legs(script, there, number, i, j):
    """The cells that stand on the paths from i to j which a star sums, one cell or more."""
    summed = step_of(script, number)[1]
    places = range(script.shapes[number][0])
    return [(summed, p, q) for p in places if comes_to(there, number, i, p)
            for q in places if there[summed][p][q] and comes_to(there, number, q, j)]


def parts(script, there, number, i, j):
    """The cells whose ways are parts of the ways to a cell that is no nought."""
    step = step_of(script, number)
    if step is None:
        return []
    if step[0] == "star":
        return legs(script, there, number, i, j)
    return [part for cells in products(script, there, number, i, j) for part in cells]
