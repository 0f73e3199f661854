"""Books: what names are defined as, line by line, and what follows."""

from unitgrids.errors import NoAnswer, NoCell, NoLine, NothingDone, NoValues, Unknown
from unitgrids.exact import is_index
from unitgrids.grids import Grid, are_values
from unitgrids.journaling import FIRST_CHECK, journal_line
from unitgrids.lines import check_bases, read_book_line
from unitgrids.makings import Unfolding
from unitgrids.reckoning import outcome
from unitgrids.scripts import fitting_script
from unitgrids.states import SCALE, Definition, States, is_maker, is_other_answer
from unitgrids.verdicts import told_verdicts, two_ways
from unitgrids.ways import bag
from unitgrids.words import is_name


class Book:
    """Keeps what names are defined as, what was done, and the journal.

    What was done, or taken back, is kept as changes: dicts with a pair of states, ahead and behind,
    for each name; so nothing is reckoned anew for what is taken back, or done again.
    """

    def __init__(self, bases):
        check_bases(bases)
        self.bases = bases
        self.held = States(bases)
        self.past = []
        self.future = []
        # The changes of each line of the group that is open, None if none is.
        self.group = None
        self.kept = []
        self.check = FIRST_CHECK

    def do(self, line):
        """Do a line; the ascending list of the names whose answers are other than ahead, came or went."""
        if not isinstance(line, str):
            raise NoLine()
        tree = read_book_line(self.bases, line)
        if len(tree) > 1:
            changes = self._define(tree)
        elif tree[0] == "undo" or tree[0] == "redo":
            changes = self._go_back(tree[0] == "undo")
        else:
            changes = self._group_line(tree[0])
        self._keep(line)
        return sorted([name for name, (ahead, behind) in changes.items() if is_other_answer(ahead, behind)])

    def _keep(self, line):
        """Write a line into the journal."""
        written, self.check = journal_line(len(self.kept) + 1, self.check, line)
        self.kept.append(written)

    def _define(self, tree):
        """Do a line that defines or drops a name."""
        if tree[0] == "drop":
            self._state(tree[1])
            changes = self.held.define(tree[1], None)
        else:
            changes = self.held.define(tree[1], Definition(tree))
        self.future = []
        if self.group is None:
            self.past.append(changes)
        else:
            self.group.append(changes)
        return changes

    def _go_back(self, is_undo):
        """Take back what was done last, or do again what was taken back last."""
        if len(self.past if is_undo else self.future) == 0:
            raise NothingDone()
        if self.group is not None:
            raise NoLine()
        if is_undo:
            changes = self.past.pop()
            self.held.put_back(changes, 0)
            self.future.append(changes)
        else:
            changes = self.future.pop()
            self.held.put_back(changes, 1)
            self.past.append(changes)
        return changes

    def _group_line(self, word):
        """Begin a group, or end it, with or without its lines."""
        if (word == "open") != (self.group is None):
            raise NoLine()
        if word == "open":
            self.group = []
            return {}
        lines = self.group
        self.group = None
        changes = _put_together(lines)
        if word == "leave":
            self.held.put_back(changes, 0)
            return changes
        if len(lines) > 0:
            self.past.append(changes)
        return {}

    def _state(self, name):
        """The state of a name that is defined."""
        state = self.held.state_of(name)
        if state is None:
            raise Unknown(name)
        return state

    def _answered(self, name, with_fault):
        """The state of a name with an answer, which may be a fault or not."""
        state = self._state(name)
        if is_maker(state) or (state.fault is not None and not with_fault):
            raise NoAnswer()
        return state

    def answer(self, name):
        """The tuple of rows of verdicts on the cells of a name's grid, or a fault."""
        state = self._answered(name, True)
        if state.fault is not None:
            return state.fault
        return told_verdicts(state.cells, SCALE)

    def names(self):
        """The ascending list of all names that are defined."""
        return sorted(self.held.states)

    def line(self, name):
        """A name's definition."""
        return self._state(name).definition.wording

    def text(self):
        """The definitions of all names, ascending, each closed by a line feed."""
        return "".join([f"{self.line(name)}\n" for name in self.names()])

    def leads(self, name):
        """The lot of the names to which a name leads."""
        self._state(name)
        return tuple(self.held.led_from(name))

    def led_by(self, name):
        """The lot of the names that lead to any name, defined or not."""
        if not is_name(name):
            raise Unknown(name)
        return tuple(self.held.led_to(name))

    def _put_names(self, name):
        """The ascending list of the names put to which a name leads, or which it is."""
        found = sorted([name] + [other for other in self.held.led_from(name) if other != name])
        return [other for other in found if self._state(other).definition.tree[0] == "put"]

    def _put_grid(self, name):
        return Grid(self.bases, self._state(name).definition.tree[2])

    def _unfolded(self, name):
        """The script by which a name without a fault is made."""
        put = self._put_names(name)
        making = Unfolding(self.held.states, put)
        number = making.made_of(("name", name))
        if number != len(making.steps) - 1:
            # The last grid is to be this one.
            rows, columns = making.shapes[number]
            making.make(("piece", number, 0, 0, rows, columns))
        grids = tuple([self._put_grid(other) for other in put])
        return fitting_script(grids, tuple(making.steps[len(put):]), tuple(making.shapes))

    def why(self, name, i, j):
        """The bags of two ways of unlike units to a cell without one, None for another cell."""
        cells = self._answered(name, False).cells
        if not is_index(i, len(cells)) or not is_index(j, len(cells[0])):
            raise NoCell()
        if cells[i][j] is not None:
            return None
        put = self._put_names(name)
        script = self._unfolded(name)
        at = len(script.shapes) - 1
        one, other = two_ways(script, at, i, j)
        return (_named_bag(put, bag(script, at, i, j, one)), _named_bag(put, bag(script, at, i, j, other)))

    def outcome(self, name, values):
        """The outcomes of a name's grid, of values for the names put to which it leads, or which it is."""
        self._answered(name, False)
        put = self._put_names(name)
        if not isinstance(values, dict) or len(values) != len(put) or not all([other in values for other in put]):
            raise NoValues()
        if not all([are_values(self._put_grid(other), values[other]) for other in put]):
            raise NoValues()
        script = self._unfolded(name)
        return outcome(script, tuple([values[other] for other in put]), len(script.shapes) - 1)

    def script(self, name):
        """A Script with the same outcomes of its last grid, into which the names put are put, ascending."""
        self._answered(name, False)
        return self._unfolded(name)

    def is_open(self):
        """Whether a group is open."""
        return self.group is not None

    def undoable(self):
        """How many times something can be taken back, but for an open group."""
        return len(self.past)

    def redoable(self):
        """How many times something that was taken back can be done again."""
        return len(self.future)

    def journal(self):
        """The text of all lines that were done."""
        return "".join(self.kept)

    def pack(self):
        """Begin the journal anew with the definitions that there are; nothing can be taken back then."""
        if self.group is not None:
            raise NoLine()
        self.past = []
        self.future = []
        self.kept = []
        self.check = FIRST_CHECK
        for name in self.names():
            self._keep(self.line(name))


def _put_together(lines):
    """The changes of several lines, each of which goes on from the one ahead."""
    changes = {}
    for line in lines:
        for name, (ahead, behind) in line.items():
            changes[name] = (changes[name][0] if name in changes else ahead, behind)
    return changes


def _named_bag(put, told):
    """A bag with the names put in the place of their grids' numbers."""
    return {(put[number], i, j): many for (number, i, j), many in told.items()}
