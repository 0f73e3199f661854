"""What the document says of books, done anew, slowly and straight, for small books."""

from fractions import Fraction

from tests import oracle
from tests.things import as_pair, as_python
from unitgrids.lines import line_text, read_line


class Fault(Exception):
    def __init__(self, told):
        self.told = told


class UnitSets:
    """Cells are sets of up to two units that ways have."""

    nought = frozenset()

    def two(self, units):
        return frozenset(sorted(units)[:2])

    def plus(self, one, other):
        return self.two(one | other)

    def times(self, one, other):
        return self.two({tuple(x + y for x, y in zip(first, second)) for first in one for second in other})

    def star_of(self, rows):
        found = rows
        for _ in range(3 * len(rows) + 2):
            found = sums(self, rows, products(self, rows, found))
        return found


class Numbers(oracle.Outcomes):
    """Cells are outcomes."""

    nought = Fraction(0)

    def __init__(self):
        pass

    def star_of(self, rows):
        return [[self.star(rows, i, j) for j in range(len(rows))] for i in range(len(rows))]


def sums(algebra, one, other):
    return [[algebra.plus(x, y) for x, y in zip(row, line)] for row, line in zip(one, other)]


def products(algebra, one, other):
    found = []
    for row in one:
        found.append([])
        for j in range(len(other[0])):
            total = algebra.nought
            for k, cell in enumerate(row):
                total = algebra.plus(total, algebra.times(cell, other[k][j]))
            found[-1].append(total)
    return found


def names_in(tree):
    kind = tree[0]
    if kind == "name":
        return {tree[1]}
    if kind == "call":
        return {tree[1]}.union(*[names_in(part) for part in tree[2]])
    return set().union(*[names_in(part) for part in tree[1:] if isinstance(part, tuple)])


class SlowBook:
    def __init__(self, bases):
        self.bases = bases
        self.trees = {}
        self.past, self.future, self.group = [], [], None

    # what follows of the definitions

    def named(self, name):
        tree = self.trees.get(name)
        if tree is None or tree[0] == "put":
            return set()
        return names_in(tree[-1]) - set(tree[2] if tree[0] == "def" else ())

    def leads(self, name):
        found, waiting = set(), [name]
        while waiting:
            for other in self.named(waiting.pop()) - found:
                found.add(other)
                waiting.append(other)
        return found

    def led_by(self, name):
        return {other for other in self.trees if name in self.leads(other)}

    def put_names(self, name):
        return sorted(other for other in self.leads(name) | {name} if self.trees[other][0] == "put")

    def grid(self, name, algebra, put):
        """The rows of a name, an error for a fault."""
        rounds = [other for other in self.leads(name) | {name} if other in self.leads(other)]
        if rounds:
            raise Fault(("round", min(rounds)))
        tree = self.trees[name]
        if tree[0] == "put":
            return put(name)
        return self.made(tree[2], {}, algebra, put)

    def made(self, tree, given, algebra, put):
        kind = tree[0]
        if kind == "name":
            return self.found(tree[1], given, algebra, put)
        if kind == "call":
            maker = self.trees.get(tree[1])
            if tree[1] not in given and maker is None:
                raise Fault(("lacking", tree[1]))
            if tree[1] in given or maker[0] != "def" or len(maker[2]) != len(tree[2]):
                raise Fault(("kind", tree[1]))
            parts = [self.made(part, given, algebra, put) for part in tree[2]]
            return self.made(maker[3], dict(zip(maker[2], parts)), algebra, put)
        parts = [self.made(part, given, algebra, put) for part in tree[1:] if isinstance(part, tuple)]
        rows = self.put_together(tree, parts, algebra)
        if rows is None or len(rows) > 12 or len(rows[0]) > 12:
            raise Fault(("shape", kind))
        return rows

    def found(self, name, given, algebra, put):
        if name in given:
            return given[name]
        if name not in self.trees:
            raise Fault(("lacking", name))
        if self.trees[name][0] == "def":
            raise Fault(("kind", name))
        try:
            return self.grid(name, algebra, put)
        except Fault:
            raise Fault(("spoilt", name)) from None

    def put_together(self, tree, parts, algebra):
        """The rows, None if the parts do not fit."""
        kind, one, other = tree[0], parts[0], parts[-1]
        high, wide = len(one), len(one[0])
        if kind == "above":
            return one + other if wide == len(other[0]) else None
        if kind == "beside":
            return [row + line for row, line in zip(one, other)] if high == len(other) else None
        if kind == "plus":
            return sums(algebra, one, other) if (high, wide) == (len(other), len(other[0])) else None
        if kind == "times":
            return products(algebra, one, other) if wide == len(other) else None
        if kind == "turned":
            return [list(column) for column in zip(*one)]
        if kind == "piece":
            i, j, rows, columns = tree[2:]
            if rows < 1 or columns < 1 or i + rows > high or j + columns > wide:
                return None
            return [row[j:j + columns] for row in one[i:i + rows]]
        if kind == "power" and tree[2] == 1:
            return one
        if high != wide:
            return None
        if kind == "star":
            return algebra.star_of(one)
        found = one
        for _ in range(tree[2] - 1):
            found = products(algebra, found, one)
        return found

    def answer(self, name):
        def put(name):
            return [[frozenset() if unit is None else frozenset([tuple(as_python(one) for one in unit)]) for unit in row]
                    for row in self.trees[name][2]]

        try:
            rows = self.grid(name, UnitSets(), put)
        except Fault as fault:
            return fault.told
        return tuple(tuple(self.verdict(units) for units in row) for row in rows)

    def verdict(self, units):
        if not units:
            return "nought"
        return None if len(units) > 1 else tuple(as_pair(one) for one in min(units))

    def outcome(self, name, values):
        rows = self.grid(name, Numbers(), lambda put: [[as_python(one) for one in row] for row in values[put]])
        return tuple(tuple(one if one == "endless" else as_pair(one) for one in row) for row in rows)

    def answers(self):
        return {name: self.answer(name) for name, tree in self.trees.items() if tree[0] != "def"}

    # what lines do

    def do(self, line):
        """The ascending list of changed names; None for what can't be done."""
        before = self.answers()
        if not self.done(line):
            return None
        after = self.answers()
        return sorted(name for name in {**before, **after} if before.get(name) != after.get(name))

    def done(self, line):
        words = line.split()
        if words[0] in ("put", "let", "def") or words[0] == "drop":
            if words[0] == "drop" and words[1] not in self.trees:
                return False
            trees = dict(self.trees)
            if words[0] == "drop":
                del trees[words[1]]
            else:
                tree = read_line(self.bases, line)
                trees[tree[1]] = tree
            self.future = []
            if self.group is None:
                self.past.append((self.trees, trees))
            else:
                self.group[1] += 1
            self.trees = trees
            return True
        if words[0] == "open":
            if self.group is not None:
                return False
            self.group = [self.trees, 0]
        elif words[0] in ("close", "leave"):
            if self.group is None:
                return False
            ahead, many = self.group
            self.group = None
            if words[0] == "leave":
                self.trees = ahead
            elif many:
                self.past.append((ahead, self.trees))
        else:
            if self.group is not None or not (self.past if words[0] == "undo" else self.future):
                return False
            if words[0] == "undo":
                self.future.append(self.past.pop())
                self.trees = self.future[-1][0]
            else:
                self.past.append(self.future.pop())
                self.trees = self.past[-1][1]
        return True

    def text(self):
        return "".join(line_text(self.trees[name]) + "\n" for name in sorted(self.trees))


def random_expression(chance, names, makers, depth):
    if depth == 0 or chance.random() < 0.2:
        return chance.choice(names)
    one = random_expression(chance, names, makers, depth - 1)
    kind = chance.choice(("+", "+", "*", "*", "|", "/", "'", "^", "[", "star", "call", "call"))
    if kind in "+*|/":
        return f"({one} {kind} {random_expression(chance, names, makers, depth - 1)})"
    if kind == "'":
        return one + "'"
    if kind == "^":
        return f"{one}^{chance.choice((1, 2, 3))}"
    if kind == "[":
        return f"{one}[{chance.choice((0, 0, 1))}, {chance.choice((0, 0, 1))}, {chance.choice((0, 1, 2, 2))}, {chance.choice((1, 2, 2))}]"
    if kind == "star":
        return f"star({one})"
    many = chance.choice((1, 1, 2, 3))
    return f"{chance.choice(makers)}({', '.join(random_expression(chance, names, makers, depth - 1) for _ in range(many))})"


def random_put(chance, name, bases):
    high, wide = chance.choice(((2, 2), (2, 2), (2, 2), (2, 2), (1, 2), (2, 1), (3, 3), (7, 2)))
    heights = [chance.randint(-1, 1) for _ in range(10)]
    rows = []
    for i in range(high):
        rows.append(" ".join("." if chance.random() < 0.3 else ",".join(str(heights[i] - heights[j]) if chance.random() < 0.9 else chance.choice(("1/2", "-2/3", "3/4"))
                                                                             for _ in range(bases))
                             for j in range(wide)))
    return f"put {name} = " + " ; ".join(rows)


def random_line(chance, bases):
    """A line that is often right, for few names, so that much depends on much."""
    kind = chance.choice(("put", "put", "let", "let", "let", "let", "def", "def", "drop", "undo", "undo", "redo", "open", "close", "leave"))
    puts, lets, makers = ["a", "b", "c"], ["p", "q", "r", "s", "t"], ["f", "g"]
    if kind == "put":
        return random_put(chance, chance.choice(puts if chance.random() < 0.95 else lets + makers), bases)
    if kind == "let":
        name = chance.choice(lets if chance.random() < 0.95 else puts + makers)
        # Rounds are to be seldom: mostly names ahead in the order are named.
        names = puts * 2 + (lets[:lets.index(name)] if name in lets and chance.random() < 0.9 else lets + makers)
        return f"let {name} = {random_expression(chance, names, makers, chance.choice((1, 2, 3)))}"
    if kind == "def":
        name = chance.choice(makers if chance.random() < 0.95 else lets)
        given = chance.sample(["a", "x", "y", "f", "p"], chance.choice((1, 1, 2, 3)))
        others = ["f"] if name == "g" and chance.random() < 0.9 else makers
        return f"def {name}({', '.join(given)}) = {random_expression(chance, given * 3 + puts, others, chance.choice((0, 1, 1, 2)))}"
    if kind == "drop":
        return f"drop {chance.choice(puts + lets + makers)}"
    return kind
