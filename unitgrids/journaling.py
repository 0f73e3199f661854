"""The form of a journal's lines."""

TIMES = 257
BELOW = 1000003
# What the first line's number goes on from.
FIRST_CHECK = 1


def journal_line(number, before, line):
    """The pair of a journal's line, which is the one with this number, and of its check number.

    The check number goes on from the one before, so that no line can be changed, left out or
    exchanged without those behind it being wrong.
    """
    check = before
    for sign in f"{number} {line}":
        check = (check * TIMES + ord(sign)) % BELOW
    return (f"{number} {check} {line}\n", check)
