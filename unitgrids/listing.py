"""All ways of a length, listed in their order.

A way may be nested deeply, and parts of it may stand in many others. So ways are never compared:
each one that is found has its rank among those to its cell, and ways to a further cell are put
in order by the ranks of their parts. A KEY is (grid, length, row, column): what is asked for are
the ways of this length to this cell. Ascending, keys stand behind those that they are made of.
"""

from unitgrids.recipes import recipes, step_of


def listed_ways(script, counts, at, i, j, length):
    """The ways of a length to a cell, of which there are some, given how many there are everywhere."""
    start = (at, length, i, j)
    keys = [[] for _ in range(at + 1)]
    for key in _needed_keys(script, counts, start):
        keys[key[0]].append(key)
    ranked = {}
    for grid_keys in keys:
        found = {}
        for key in grid_keys:
            found[key] = _entries(script, counts, ranked, found, key)
        ranked.update(_ranked(found))
    return [way for _, way in ranked[start]]


def _needed_keys(script, counts, start):
    """The ascending list of all keys of which one is made, itself among them."""
    found = {start: True}
    waiting = [start]
    while len(waiting) > 0:
        key = waiting.pop()
        for _, parts in _choices(script, counts, key):
            for part in parts:
                if part not in found:
                    found[part] = True
                    waiting.append(part)
    return sorted(found)


def _star_recipes(script, number, i, j):
    """As recipes tells for other steps: a first leg alone, or one and the rest, of the same star."""
    summed = step_of(script, number)[1]
    alone = [((), ((summed, i, j),))]
    return alone + [((q,), ((summed, i, q), (number, q, j))) for q in range(script.shapes[number][0])]


def _choices(script, counts, key):
    """What the ways of a key begin with, and the keys of their parts: a pair for each kind with any."""
    number, length, i, j = key
    step = step_of(script, number)
    if step is None:
        return []
    if step[0] == "star":
        kinds = _star_recipes(script, number, i, j)
    else:
        kinds = recipes(script, number, i, j)
    found = []
    for begun, cells in kinds:
        if len(cells) == 1:
            splits = [(length,)]
        else:
            splits = [(first, length - first) for first in range(1, length)]
        found.extend([(begun, _keys_of(cells, split)) for split in splits if _has_ways(counts, cells, split)])
    return found


def _has_ways(counts, cells, lengths):
    """Whether there are ways of these lengths to these cells."""
    return all([counts[number][i][j][length] > 0 for (number, i, j), length in zip(cells, lengths)])


def _keys_of(cells, lengths):
    return [(number, length, i, j) for (number, i, j), length in zip(cells, lengths)]


def _entries(script, counts, ranked, found, key):
    """The pairs of what puts a way in order, and the way, of a key.

    What is ranked are the pairs of ranks and ways of the grids ahead; found are such entries of
    this grid for lesser lengths, of which the ways of a star go on.
    """
    step = step_of(script, key[0])
    if step is None:
        return [((), ())]
    rows = []
    for begun, parts in _choices(script, counts, key):
        if step[0] != "star":
            rows.extend(_put_together(begun, [ranked[part] for part in parts]))
        elif len(parts) == 1:
            rows.extend(_first_legs(key, ranked[parts[0]]))
        else:
            rows.extend(_longer_paths(key[2], ranked[parts[0]], found[parts[1]]))
    return rows


def _put_together(begun, lists):
    """The entries of ways that begin alike and go on with one of each list."""
    if begun == ():
        return [((rank,), way) for rank, way in lists[0]]
    rows = [(begun, begun)]
    for pairs in lists:
        rows = [(order + (rank,), way + (part,)) for order, way in rows for rank, part in pairs]
    return rows


def _first_legs(key, leg_pairs):
    """The entries of ways of a star of one leg."""
    places = (key[2], key[3])
    return [((places, (rank,)), (places, (leg,))) for rank, leg in leg_pairs]


def _longer_paths(i, leg_pairs, rest):
    """The entries of ways of a star that begin at a place with a leg and go on with a way of the star."""
    rows = []
    for rank, leg in leg_pairs:
        for (places, ranks), (_, legs) in rest:
            longer = (i,) + places
            rows.append(((longer, (rank,) + ranks), (longer, (leg,) + legs)))
    return rows


def _ranked(found):
    """The pairs of a way's rank among all that were found to its cell, and the way, for each key."""
    by_cell = {}
    for key, entries in found.items():
        told = by_cell.setdefault((key[2], key[3]), [])
        told.extend([(order, key, way) for order, way in entries])
    ranked = {key: [] for key in found}
    for told in by_cell.values():
        # No two ways to a cell have the same order.
        for rank, (_, key, way) in enumerate(sorted(told, key=lambda entry: entry[0])):
            ranked[key].append((rank, way))
    return ranked
