"""What the document says of scripts, done anew, slowly and straight, for small scripts."""

from fractions import Fraction
from math import lcm

from tests.things import as_python
from unitgrids.errors import BadScript
from unitgrids.grids import Grid
from unitgrids.scripts import Script, many_grids, shape, with_step

KINDS = ("plus", "times", "turned", "beside", "above", "piece", "star", "star")


def random_unit(chance, bases, plain):
    if plain:
        return tuple((chance.randint(-1, 1), 1) for _ in range(bases))
    exponents = []
    for _ in range(bases):
        exponent = Fraction(chance.randint(-6, 6), chance.randint(1, 4))
        exponents.append((exponent.numerator, exponent.denominator))
    return tuple(exponents)


def random_grid(chance, bases, rows, columns, fill=0.6, plain=True):
    """A grid whose units are often products of heights, so that much of it has a unit."""
    left = [chance.randint(-1, 1) for _ in range(rows)]
    right = [chance.randint(-1, 1) for _ in range(columns)]
    if rows == columns and chance.random() < 0.5:
        right = [-height for height in left]
    tidy = plain and chance.random() < 0.7
    told = []
    for i in range(rows):
        row = []
        for j in range(columns):
            if chance.random() > fill:
                row.append(None)
            elif tidy:
                row.append(((left[i] + right[j], 1),) + ((0, 1),) * (bases - 1))
            else:
                row.append(random_unit(chance, bases, plain))
        told.append(tuple(row))
    return Grid(bases, tuple(told))


def random_step(chance, shapes):
    """A step that fits these shapes, None if the draw was none."""
    kind = chance.choice(KINDS)
    a, b = chance.randrange(len(shapes)), chance.randrange(len(shapes))
    rows, columns = shapes[a]
    if kind in ("turned", "star"):
        step = (kind, a)
    elif kind == "piece":
        i, j = chance.randrange(rows), chance.randrange(columns)
        step = (kind, a, i, j, chance.randint(1, rows - i), chance.randint(1, columns - j))
    else:
        step = (kind, a, b)
    return step


def random_script(chance, steps=4, grids=2, most=3, fill=0.6, plain=True, stars=2):
    """A script of few small grids, with at most so many steps, and so many stars among them."""
    bases = chance.randint(1, 3)
    put = []
    for _ in range(chance.randint(1, grids)):
        rows = chance.randint(1, most)
        columns = rows if chance.random() < 0.6 else chance.randint(1, most)
        put.append(random_grid(chance, bases, rows, columns, fill, plain))
    script = Script(tuple(put), ())
    for _ in range(40):
        step = random_step(chance, [shape(script, at) for at in range(many_grids(script))])
        if step[0] == "star" and sum(other[0] == "star" for other in script.steps) >= stars:
            continue
        try:
            longer = with_step(script, step)
        except BadScript:
            continue
        if max(shape(longer, many_grids(longer) - 1)) <= most + 1:
            script = longer
        if len(script.steps) >= steps:
            break
    return script


def all_cells(script):
    for at in range(many_grids(script)):
        rows, columns = shape(script, at)
        for i in range(rows):
            for j in range(columns):
                yield at, i, j


def moved_cell(script, step, i, j):
    """Where a cell of turned, beside, above, piece comes from."""
    if step[0] == "turned":
        return step[1], j, i
    rows, columns = shape(script, step[1])
    if step[0] == "beside":
        return (step[1], i, j) if j < columns else (step[2], i, j - columns)
    if step[0] == "above":
        return (step[1], i, j) if i < rows else (step[2], i - rows, j)
    return step[1], step[2] + i, step[3] + j


class Ways:
    """All ways of small lengths."""

    def __init__(self, script):
        self.script = script
        self.found = {}

    def of(self, at, i, j, length):
        """The ascending list of the ways of this length."""
        key = (at, i, j, length)
        if key not in self.found:
            self.found[key] = sorted(self.find(*key)) if length > 0 else []
        return self.found[key]

    def find(self, at, i, j, length):
        put = len(self.script.grids)
        if at < put:
            return [()] if length == 1 and self.script.grids[at].rows[i][j] is not None else []
        step = self.script.steps[at - put]
        if step[0] == "plus":
            return [(side, way) for side in (0, 1) for way in self.of(step[1 + side], i, j, length)]
        if step[0] == "times":
            return [(k, one, other) for k in range(shape(self.script, step[1])[1])
                    for first in range(1, length) for one in self.of(step[1], i, k, first)
                    for other in self.of(step[2], k, j, length - first)]
        if step[0] == "star":
            return [(tuple(places), tuple(legs)) for places, legs in self.paths(step[1], i, j, length)]
        return self.of(*moved_cell(self.script, step, i, j), length)

    def paths(self, a, i, j, length):
        for leg in self.of(a, i, j, length):
            yield [i, j], [leg]
        for q in range(shape(self.script, a)[0]):
            for first in range(1, length):
                for leg in self.of(a, i, q, first):
                    for places, legs in self.paths(a, q, j, length - first):
                        yield [i] + places, [leg] + legs

    def bag(self, at, i, j, way):
        """The list of the cells that are put in, as often as they stand in a way."""
        put = len(self.script.grids)
        if at < put:
            return [(at, i, j)]
        step = self.script.steps[at - put]
        if step[0] == "plus":
            return self.bag(step[1 + way[0]], i, j, way[1])
        if step[0] == "times":
            return self.bag(step[1], i, way[0], way[1]) + self.bag(step[2], way[0], j, way[2])
        if step[0] == "star":
            places, legs = way
            return [cell for p, q, leg in zip(places, places[1:], legs) for cell in self.bag(step[1], p, q, leg)]
        return self.bag(*moved_cell(self.script, step, i, j), way)

    def unit(self, at, i, j, way):
        total = [Fraction(0)] * self.script.grids[0].bases
        for number, row, column in self.bag(at, i, j, way):
            unit = self.script.grids[number].rows[row][column]
            total = [one + as_python(other) for one, other in zip(total, unit)]
        return tuple((one.numerator, one.denominator) for one in total)

    def worth(self, at, i, j, way, values):
        total = Fraction(1)
        for number, row, column in self.bag(at, i, j, way):
            total *= as_python(values[number][row][column])
        return total


class Units:
    """For each cell up to two units that ways to it have; stars by going on step by step."""

    def __init__(self, script):
        self.script = script
        self.scale = 1
        for grid in script.grids:
            for row in grid.rows:
                for unit in row:
                    self.scale = lcm(self.scale, *[below for _, below in unit or ()])
        self.grids = []
        for grid in script.grids:
            self.grids.append([[self.put(unit) for unit in row] for row in grid.rows])
        for number, step in enumerate(script.steps, start=len(script.grids)):
            rows, columns = shape(script, number)
            if step[0] == "star":
                self.grids.append(self.star(self.grids[step[1]]))
            else:
                self.grids.append([[self.made(step, i, j) for j in range(columns)] for i in range(rows)])

    def put(self, unit):
        if unit is None:
            return set()
        return {tuple(top * self.scale // below for top, below in unit)}

    def two(self, units):
        return set(sorted(units)[:2])

    def times(self, one, other):
        return {tuple(x + y for x, y in zip(first, second)) for first in one for second in other}

    def made(self, step, i, j):
        if step[0] == "plus":
            return self.two(self.grids[step[1]][i][j] | self.grids[step[2]][i][j])
        if step[0] == "times":
            found = set()
            for k, one in enumerate(self.grids[step[1]][i]):
                found |= self.times(one, self.grids[step[2]][k][j])
            return self.two(found)
        at, row, column = moved_cell(self.script, step, i, j)
        return self.grids[at][row][column]

    def star(self, rows):
        many = len(rows)
        found = [[set() for _ in rows] for _ in rows]
        for _ in range(3 * many + 2):
            found = [[self.two(rows[i][j].union(*[self.times(rows[i][k], found[k][j]) for k in range(many)]))
                      for j in range(many)] for i in range(many)]
        return found

    def verdict(self, at, i, j):
        found = self.grids[at][i][j]
        if not found:
            return "nought"
        if len(found) > 1:
            return None
        told = [Fraction(exponent, self.scale) for exponent in min(found)]
        return tuple((one.numerator, one.denominator) for one in told)


def inverse(rows):
    """The inverse of rows of Fractions, None if there is none."""
    many = len(rows)
    work = [list(row) + [Fraction(int(i == j)) for j in range(many)] for i, row in enumerate(rows)]
    for k in range(many):
        pivot = next((i for i in range(k, many) if work[i][k] != 0), None)
        if pivot is None:
            return None
        work[k], work[pivot] = work[pivot], work[k]
        work[k] = [one / work[k][k] for one in work[k]]
        for i in range(many):
            if i != k:
                work[i] = [one - work[i][k] * other for one, other in zip(work[i], work[k])]
    return [row[many:] for row in work]


class Outcomes:
    """All outcomes: Fractions, or "endless"; stars by inverses."""

    def __init__(self, script, values):
        self.script = script
        self.grids = [[[as_python(number) for number in row] for row in part] for part in values]
        for number, step in enumerate(script.steps, start=len(script.grids)):
            rows, columns = shape(script, number)
            self.grids.append([[self.made(step, i, j) for j in range(columns)] for i in range(rows)])

    def made(self, step, i, j):
        one = self.grids[step[1]]
        if step[0] == "plus":
            return self.plus(one[i][j], self.grids[step[2]][i][j])
        if step[0] == "times":
            total = Fraction(0)
            for k in range(len(one[0])):
                total = self.plus(total, self.times(one[i][k], self.grids[step[2]][k][j]))
            return total
        if step[0] == "star":
            return self.star(one, i, j)
        at, row, column = moved_cell(self.script, step, i, j)
        return self.grids[at][row][column]

    def plus(self, one, other):
        return "endless" if "endless" in (one, other) else one + other

    def times(self, one, other):
        if 0 in (one, other):
            return Fraction(0)
        return "endless" if "endless" in (one, other) else one * other

    def star(self, rows, i, j):
        on_paths = [p for p in range(len(rows)) if self.leads(rows, i, p) and self.leads(rows, p, j)]
        if not on_paths:
            return Fraction(0)
        part = [[rows[p][q] for q in on_paths] for p in on_paths]
        if any("endless" in row for row in part):
            return "endless"
        many = len(part)
        found = inverse([[int(p == q) - part[p][q] for q in range(many)] for p in range(many)])
        # The sum of all powers is there just if this inverse is, without numbers below 0.
        if found is None or any(number < 0 for row in found for number in row):
            return "endless"
        at, to = on_paths.index(i), on_paths.index(j)
        return found[at][to] - int(i == j)

    def leads(self, rows, start, end):
        seen, waiting = {start}, [start]
        while waiting:
            place = waiting.pop()
            for q, number in enumerate(rows[place]):
                if number != 0 and q not in seen:
                    seen.add(q)
                    waiting.append(q)
        return end in seen

    def told(self, at):
        return tuple(tuple(one if one == "endless" else (one.numerator, one.denominator) for one in row)
                     for row in self.grids[at])


def random_values(chance, script, most=9):
    found = []
    for grid in script.grids:
        rows = []
        for row in grid.rows:
            numbers = []
            for unit in row:
                number = Fraction(chance.randint(1, most), chance.randint(1, most))
                numbers.append((0, 1) if unit is None else (number.numerator, number.denominator))
            rows.append(tuple(numbers))
        found.append(tuple(rows))
    return tuple(found)


def needed_of(script, ways, at, i, j, most):
    """The cells whose ways stand in some way to a cell that is not longer than this."""
    found = set()

    def visit(at, i, j, way):
        found.add((at, i, j))
        put = len(script.grids)
        if at < put:
            return
        step = script.steps[at - put]
        if step[0] == "plus":
            visit(step[1 + way[0]], i, j, way[1])
        elif step[0] == "times":
            visit(step[1], i, way[0], way[1])
            visit(step[2], way[0], j, way[2])
        elif step[0] == "star":
            for p, q, leg in zip(way[0], way[0][1:], way[1]):
                visit(step[1], p, q, leg)
        else:
            visit(*moved_cell(script, step, i, j), way)

    for length in range(1, most + 1):
        for way in ways.of(at, i, j, length):
            visit(at, i, j, way)
    return sorted(found)
