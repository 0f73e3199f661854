"""Lines, which define names: read as trees, and told."""

from math import gcd

from unitgrids.errors import BadLine, NoNumber
from unitgrids.exact import is_whole
from unitgrids.expressions import MOST_ARGUMENTS, expression_text, read_expression
from unitgrids.grids import MOST_BOTTOM, MOST_ROWS, MOST_TOP
from unitgrids.tokens import Reader
from unitgrids.units import MOST_BASES
from unitgrids.words import NOUGHT_WORD, cell_text

COMMANDS = ("open", "close", "leave", "undo", "redo")


def check_bases(bases):
    """Raise NoNumber for what is no number of base units."""
    if not is_whole(bases) or not 1 <= bases <= MOST_BASES:
        raise NoNumber()


def read_line(bases, text):
    """The tree of a line that defines a name."""
    check_bases(bases)
    if not isinstance(text, str):
        raise BadLine(-1)
    return _read_definition(Reader(text), bases)


def read_book_line(bases, text):
    """The tree of a line that a Book does: as read_line, ("drop", name), or a command's word alone."""
    reader = Reader(text)
    word = reader.ahead()
    if word == "drop":
        reader.skip(word)
        tree = (word, reader.take_name(()))
    elif word in COMMANDS:
        reader.skip(word)
        tree = (word,)
    else:
        return _read_definition(reader, bases)
    reader.skip_end()
    return tree


def _read_definition(reader, bases):
    """The tree of what a reader has ahead."""
    word = reader.ahead()
    if word == "put":
        reader.skip(word)
        name = _read_defined(reader)
        rows = _read_rows(reader, bases)
        reader.skip_end()
        return (word, name, rows)
    if word == "let":
        reader.skip(word)
        name = _read_defined(reader)
        return (word, name, read_expression(reader))
    reader.skip("def")
    name = reader.take_name(())
    parameters = _read_parameters(reader)
    reader.skip("=")
    return ("def", name, parameters, read_expression(reader))


def _read_defined(reader):
    """The name that is defined, and the sign behind it."""
    name = reader.take_name(())
    reader.skip("=")
    return name


def _read_parameters(reader):
    reader.skip("(")
    parameters = [reader.take_name(())]
    while reader.ahead() == "," and len(parameters) < MOST_ARGUMENTS:
        reader.skip(",")
        parameters.append(reader.take_name(parameters))
    reader.skip(")")
    return tuple(parameters)


def _read_rows(reader, bases):
    """The rows of a grid, which have as many cells as the first one."""
    rows = [_read_first_row(reader, bases)]
    while reader.ahead() == ";" and len(rows) < MOST_ROWS:
        reader.skip(";")
        cells = []
        while len(cells) < len(rows[0]):
            cells.append(_read_cell(reader, bases))
        rows.append(tuple(cells))
    return tuple(rows)


def _read_first_row(reader, bases):
    cells = [_read_cell(reader, bases)]
    while _begins_cell(reader.ahead()) and len(cells) < MOST_ROWS:
        cells.append(_read_cell(reader, bases))
    return tuple(cells)


def _begins_cell(token):
    """Whether a token can be taken for the beginning of a cell, right or wrong."""
    return token == NOUGHT_WORD or token == "-" or token.isdigit()


def _read_cell(reader, bases):
    if reader.ahead() == NOUGHT_WORD:
        reader.skip(NOUGHT_WORD)
        return None
    exponents = [_read_exponent(reader)]
    while len(exponents) < bases:
        reader.skip(",")
        exponents.append(_read_exponent(reader))
    return tuple(exponents)


def _read_exponent(reader):
    sign = 1
    if reader.ahead() == "-":
        reader.skip("-")
        sign = -1
    # No 0 has a sign.
    top = reader.take_one_of(list(range(0 if sign == 1 else 1, MOST_TOP + 1)))
    bottoms = [number for number in range(2, MOST_BOTTOM + 1) if gcd(top, number) == 1]
    if reader.ahead() != "/" or len(bottoms) == 0:
        return (sign * top, 1)
    reader.skip("/")
    return (sign * top, reader.take_one_of(bottoms))


def line_text(tree):
    """The line that a tree is of, with as few parentheses as can be."""
    if tree[0] == "put":
        rows = " ; ".join([" ".join([cell_text(thing) for thing in row]) for row in tree[2]])
        return f"put {tree[1]} = {rows}"
    if tree[0] == "let":
        return f"let {tree[1]} = {expression_text(tree[2])}"
    parameters = ", ".join(list(tree[2]))
    return f"def {tree[1]}({parameters}) = {expression_text(tree[3])}"
