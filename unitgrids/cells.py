"""What the cells of all grids of a script hold, be it numbers, units or what else is told of ways."""

from unitgrids.steps import moved, sources, turned


def leading(script, at):
    """For each grid up to one: whether that one is made of it, or it is that one."""
    many = len(script.grids)
    leads = [False] * at + [True]
    for number in range(at, many - 1, -1):
        if leads[number]:
            for source in sources(script.steps[number - many]):
                leads[source] = True
    return leads


class Cells:
    """Whether any way leads to a cell; the classes below this one tell more of the ways.

    Such a class says what stands for no way at all, what for a cell that is put in, and what its
    sums, its products and its sums of all powers are, the power 0 among them. Sums may be asked
    of noughts, the others not, but for the sum of all powers.
    """

    def __init__(self):
        self.nought = False

    def put_in(self, number, i, j, unit):
        """What stands in a cell that is put in and has this unit."""
        return True

    def sum_of(self, one, other):
        return one or other

    def product_of(self, one, other):
        return one and other

    def powers_of(self, one):
        """The sum of all powers, from the power 0 on."""
        return True

    def grids_to(self, script, at):
        """The rows of each grid up to one; None for those of which that one is not made."""
        return self.grids_of(script, leading(script, at))

    def grids_of(self, script, wanted):
        """The rows of each grid that is wanted, None for each other one, which none wanted is made of."""
        many = len(script.grids)
        grids = []
        for number, flag in enumerate(wanted):
            if not flag:
                grids.append(None)
            elif number < many:
                grids.append(self.rows_put_in(number, script.grids[number]))
            else:
                grids.append(self.rows_made(script.steps[number - many], grids))
        return grids

    def rows_put_in(self, number, grid):
        rows = []
        for i, row in enumerate(grid.rows):
            rows.append([self.nought if unit is None else self.put_in(number, i, j, unit)
                         for j, unit in enumerate(row)])
        return rows

    def rows_made(self, step, grids):
        """The rows that a step makes of those of the grids ahead of it."""
        one = grids[step[1]]
        if step[0] == "plus":
            return self.sums(one, grids[step[2]])
        if step[0] == "times":
            return self.products(one, grids[step[2]])
        if step[0] == "star":
            return self.stars(one)
        return moved(step, grids)

    def sums(self, one, other):
        return [[self.sum_of(first, second) for first, second in zip(row, line)]
                for row, line in zip(one, other)]

    def products(self, one, other):
        columns = turned(other)
        return [[self.inner(row, column) for column in columns] for row in one]

    def inner(self, row, column):
        """The sum of the products of a row's cells with a column's."""
        total = self.nought
        for first, second in zip(row, column):
            if first != self.nought and second != self.nought:
                total = self.sum_of(total, self.product_of(first, second))
        return total

    def stars(self, rows):
        """The sums of all powers from the first one on."""
        # After each round the cells sum the paths all whose inner places are of those done so far.
        sums = rows
        for k in range(len(rows)):
            around = self.powers_of(sums[k][k])
            sums = [self.with_paths(row, row[k], around, sums[k]) for row in sums]
        return sums

    def with_paths(self, row, to_place, around, from_place):
        """A row with the paths, too, that go to a place, around from it to itself, and on from it."""
        if to_place == self.nought:
            return row
        begun = self.product_of(to_place, around)
        return [there if further == self.nought else self.sum_of(there, self.product_of(begun, further))
                for there, further in zip(row, from_place)]
