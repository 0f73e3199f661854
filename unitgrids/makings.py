"""How the grids of expressions are made: the steps, or the fault that comes first."""

from unitgrids.expressions import operands
from unitgrids.steps import made_shape

NAMED = "named"
# Stands behind an expression whose grid is that of a name.
WHOLE = "whole"


class Making:
    """Goes through expressions, parts ahead of what is made of them, and keeps the steps.

    The grids have numbers as they come: those that are made have a step, those of names that stand
    for themselves have ("named", name) in its place. There is given what is told of each name that
    is defined. Makers' own expressions are gone through with the numbers of the grids that are
    given for their parameters.
    """

    def __init__(self, states):
        self.states = states
        self.steps = []
        self.shapes = []
        self.numbers = {}
        self.fault = None
        self.waiting = []
        self.done = []

    def made_of(self, tree):
        """The number of an expression's grid; None if there is a fault, which is kept then."""
        self.waiting = [(tree, {}, False)]
        self.done = []
        while len(self.waiting) > 0 and self.fault is None:
            part, given, is_ready = self.waiting.pop()
            if is_ready:
                self.end(part, given)
            elif part[0] == "name":
                self.begin_name(part[1], given)
            else:
                self.begin(part, given)
        return self.done[-1] if self.fault is None else None

    def begin(self, part, given):
        """Have an expression's parts gone through, and then itself."""
        if part[0] == "call":
            self.fault = self.wrong_call(part[1], len(part[2]), given)
        self.waiting.append((part, given, True))
        for operand in operands(part)[::-1]:
            self.waiting.append((operand, given, False))

    def wrong_call(self, name, many, given):
        """The fault of calling a name with so many arguments, None if there is none."""
        state = self.states.get(name)
        if name not in given and state is None:
            return ("lacking", name)
        if name in given or state.definition.tree[0] != "def" or len(state.definition.tree[2]) != many:
            return ("kind", name)
        return None

    def begin_name(self, name, given):
        if name in given:
            self.done.append(given[name])
            return
        state = self.states.get(name)
        if state is None:
            self.fault = ("lacking", name)
        elif state.definition.tree[0] == "def":
            self.fault = ("kind", name)
        elif state.fault is not None:
            self.fault = ("spoilt", name)
        elif name in self.numbers:
            self.done.append(self.numbers[name])
        else:
            self.begin_grid(name, state)

    def begin_grid(self, name, state):
        """Number the grid of a name that comes for the first time."""
        self.number_named(name, (len(state.cells), len(state.cells[0])))
        self.done.append(self.numbers[name])

    def number_named(self, name, shape):
        self.numbers[name] = len(self.steps)
        self.steps.append((NAMED, name))
        self.shapes.append(shape)

    def end(self, part, given):
        """Make what all parts of are there."""
        kind = part[0]
        if kind == WHOLE:
            self.numbers[part[1]] = self.done[-1]
            return
        many = len(operands(part))
        parts = self.done[len(self.done) - many:]
        del self.done[len(self.done) - many:]
        if kind == "call":
            tree = self.states[part[1]].definition.tree
            self.waiting.append((tree[3], dict(zip(tree[2], parts)), False))
        elif kind == "power":
            self.make_power(parts[0], part[2])
        elif kind == "piece":
            self.make((kind, parts[0]) + part[2:])
        else:
            self.make((kind,) + tuple(parts))

    def make(self, step):
        """Make a grid by a step; a fault if it does not fit."""
        shape = made_shape(self.shapes, step)
        if shape is None:
            self.fault = ("shape", step[0])
            return
        self.done.append(len(self.steps))
        self.steps.append(step)
        self.shapes.append(shape)

    def make_power(self, number, many):
        """Make so many of a grid times one another: few steps, as powers are put together of squares."""
        rows, columns = self.shapes[number]
        if many > 1 and rows != columns:
            self.fault = ("shape", "power")
            return
        result = None
        square = number
        left = many
        while left > 0:
            if left % 2 == 1:
                result = square if result is None else self.make_product(result, square)
            left = left // 2
            if left > 0:
                square = self.make_product(square, square)
        self.done.append(result)

    def make_product(self, one, other):
        self.make(("times", one, other))
        return self.done.pop()


class Unfolding(Making):
    """A making in which only names that are put stand for themselves: these come first."""

    def __init__(self, states, put):
        Making.__init__(self, states)
        for name in put:
            rows = states[name].definition.tree[2]
            self.number_named(name, (len(rows), len(rows[0])))

    def begin_grid(self, name, state):
        self.waiting.append(((WHOLE, name), {}, True))
        self.waiting.append((state.definition.tree[2], {}, False))
