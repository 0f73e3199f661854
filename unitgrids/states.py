"""What names are defined as, and what follows for each of them: its answer, and its round.

When a name is defined anew, only the names that lead to it are looked at, and of these only those
are reckoned anew of which something that they name has another answer than ahead.
"""

from unitgrids.expressions import names_in
from unitgrids.grids import Grid, scaled_rows
from unitgrids.lines import line_text
from unitgrids.makings import NAMED, Making
from unitgrids.verdicts import NOUGHT, Verdicts

# Each exponent that a line can tell is an integer when it is taken so many times.
SCALE = 12


class Definition:
    """The tree of a line that defines a name, the line as it is told, and the names that it names."""

    def __init__(self, tree):
        self.tree = tree
        self.wording = line_text(tree)
        self.named = _named_in(tree)


class State:
    """A name's definition and what follows of all definitions; it never changes.

    The loop is the least name that leads to itself and that this one leads to, or is; None without
    one. The cells are the rows of verdicts, units scaled; None with a fault, and for a maker.
    """

    def __init__(self, definition, loop, fault, cells):
        self.definition = definition
        self.loop = loop
        self.fault = fault
        self.cells = cells


def _named_in(tree):
    """The ascending list of the names that a definition names."""
    if tree[0] == "put":
        return []
    parameters = tree[2] if tree[0] == "def" else ()
    return sorted([name for name in names_in(tree[-1]) if name not in parameters])


def is_maker(state):
    """Whether a state, which may be None, is a maker's."""
    return state is not None and state.definition.tree[0] == "def"


def is_other_answer(one, other):
    """Whether two states, which may be None, have unlike answers, or only one of them has any."""
    return _answer(one) != _answer(other)


def _answer(state):
    if state is None or is_maker(state):
        return None
    return (state.fault, state.cells)


class States:
    """The states of all names that are defined, and which definitions name a name, defined or not."""

    def __init__(self, bases):
        self.bases = bases
        self.states = {}
        self.users = {}

    def state_of(self, name):
        """The state of a name, None for what is none that is defined."""
        return self.states.get(name) if isinstance(name, str) else None

    def named_by(self, name):
        """The names that a name's definition names."""
        state = self.states.get(name)
        return [] if state is None else state.definition.named

    def used_by(self, name):
        """The names whose definitions name a name."""
        return list(self.users.get(name, {}))

    def led_from(self, name):
        """The ascending list of the names to which a name leads."""
        return self.reached(self.named_by(name), True)

    def led_to(self, name):
        """The ascending list of the names that lead to a name."""
        return self.reached(self.used_by(name), False)

    def reached(self, starts, onward):
        """The ascending list of some names and of those to which they lead, or that lead to them."""
        found = {name: True for name in starts}
        waiting = list(starts)
        while len(waiting) > 0:
            name = waiting.pop()
            for other in self.named_by(name) if onward else self.used_by(name):
                if other not in found:
                    found[other] = True
                    waiting.append(other)
        return sorted(found)

    def put_back(self, changes, side):
        """Have the states that changes tell of, those ahead for 0 and those behind for 1."""
        for name, pair in changes.items():
            if self.states.get(name) != pair[side]:
                self.have(name, pair[side])

    def have(self, name, state):
        """Have another state for a name, None for none."""
        for other in self.named_by(name):
            del self.users[other][name]
        if state is None:
            del self.states[name]
        else:
            self.states[name] = state
        for other in self.named_by(name):
            self.users.setdefault(other, {})[name] = True

    def define(self, name, definition):
        """Define a name anew, None for no more; the changes: for each name a pair of states, ahead and behind."""
        before = self.states.get(name)
        if before is not None and definition is not None and before.definition.wording == definition.wording:
            return {}
        # What leads to the name does so by the others' definitions alone.
        concerned = [name] + [other for other in self.led_to(name) if other != name]
        ahead = {other: self.states.get(other) for other in concerned}
        self.have(name, None if definition is None else State(definition, None, None, None))
        moved = {}
        for knot in self.knots(concerned):
            loop = self.loop_of(knot)
            for other in knot:
                self.follow(other, loop, ahead[other], moved)
        return {other: (ahead[other], self.states.get(other)) for other in concerned
                if ahead[other] != self.states.get(other)}

    def ended(self, names):
        """Some names, each behind all to which it leads, as far as these do not lead back to it."""
        inside = {name: True for name in names}
        seen = {}
        order = []
        for start in names:
            waiting = [(start, False)]
            while len(waiting) > 0:
                name, is_ready = waiting.pop()
                if is_ready:
                    order.append(name)
                elif name not in seen:
                    seen[name] = True
                    waiting.append((name, True))
                    waiting.extend([(other, False) for other in self.named_by(name) if other in inside])
        return order

    def knots(self, names):
        """Lists of names that lead to one another, or of one alone, each behind those to which it leads."""
        left = {name: True for name in names}
        knots = []
        # Of all that are left, the last one that ended is led to just by those of its own knot.
        for start in self.ended(names)[::-1]:
            knot = []
            waiting = [start]
            while len(waiting) > 0:
                name = waiting.pop()
                if name in left:
                    del left[name]
                    knot.append(name)
                    waiting.extend(self.used_by(name))
            if len(knot) > 0:
                knots.append(knot)
        return knots[::-1]

    def loop_of(self, knot):
        """The least name that leads to itself and that a knot leads to, or has; None without one."""
        found = []
        inside = {name: True for name in knot}
        for name in knot:
            for other in self.named_by(name):
                if other in inside:
                    found.append(other)
                elif other in self.states and self.states[other].loop is not None:
                    found.append(self.states[other].loop)
        return min(found) if len(found) > 0 else None

    def follow(self, name, loop, before, moved):
        """Tell a name's state anew if it may be another one; mark it as moved if others may follow."""
        state = self.states.get(name)
        if state is None:
            moved[name] = True
            return
        is_same = before is not None and before.definition == state.definition and before.loop == loop
        if is_same and not any([other in moved for other in state.definition.named]):
            return
        after = self.told_anew(state.definition, loop)
        if is_maker(before) or is_maker(after) or is_other_answer(before, after):
            moved[name] = True
            self.states[name] = after
        elif not is_same:
            self.states[name] = after

    def told_anew(self, definition, loop):
        """The state of a definition, those of all names that it names being told."""
        tree = definition.tree
        if tree[0] == "def":
            return State(definition, loop, None, None)
        if loop is not None:
            return State(definition, loop, ("round", loop), None)
        if tree[0] == "put":
            return State(definition, None, None, scaled_rows(Grid(self.bases, tree[2]), SCALE, NOUGHT))
        making = Making(self.states)
        number = making.made_of(tree[2])
        cells = None if making.fault is not None else self.cells_made(making.steps)[number]
        return State(definition, None, making.fault, cells)

    def cells_made(self, steps):
        """The rows of verdicts on the grids of a making."""
        algebra = Verdicts(self.bases, SCALE)
        grids = []
        for step in steps:
            grids.append(self.states[step[1]].cells if step[0] == NAMED else algebra.rows_made(step, grids))
        return grids
