"""Journals done again, and what was done in two books put together."""

from unitgrids.books import Book
from unitgrids.errors import GridError, NoText, OtherBases
from unitgrids.journaling import FIRST_CHECK, journal_line


def recovered(bases, text):
    """A Book in which the lines of a journal are done, as far as it is right, and how many these are."""
    book = Book(bases)
    if not isinstance(text, str):
        raise NoText()
    many = 0
    check = FIRST_CHECK
    # What stands behind the last line feed is no whole line.
    for record in text.split("\n")[:-1]:
        line = _line_in(record)
        written, check = journal_line(many + 1, check, line)
        if written != f"{record}\n" or not _is_done(book, line):
            break
        many += 1
    if book.is_open():
        book.do("leave")
        many += 1
    return (book, many)


def _line_in(record):
    """What stands behind the two numbers of a journal's line, if it is one."""
    return record.partition(" ")[2].partition(" ")[2]


def _is_done(book, line):
    """Do a line in a book; whether this could be done."""
    try:
        book.do(line)
    except GridError:
        return False
    return True


def merged(base, one, other):
    """The lines by which one book gets what was done in two others made of it, and the names that clash."""
    if one.bases != base.bases or other.bases != base.bases:
        raise OtherBases()
    before = _wordings(base)
    first = _wordings(one)
    second = _wordings(other)
    lines = []
    clashing = []
    for name in sorted(set(list(before) + list(first) + list(second))):
        states = [states.get(name) for states in (before, first, second)]
        if states[1] != states[2] and states[0] not in states[1:]:
            clashing.append(name)
        elif states[1] != states[0] or states[2] != states[0]:
            new = states[1] if states[1] != states[0] else states[2]
            lines.append(f"drop {name}" if new is None else new)
    return (lines, clashing)


def _wordings(book):
    """A dict from each name of a book to its definition as it is told."""
    return {name: book.line(name) for name in book.names()}
