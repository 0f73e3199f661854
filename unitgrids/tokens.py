"""The tokens of a line, and a reader that goes from one to the next one."""

from unitgrids.errors import BadLine
from unitgrids.words import is_name

LETTER = 1
DIGIT = 2
OTHER = 3


def _kind(sign):
    if sign.isalpha():
        return LETTER
    return DIGIT if sign.isdigit() else OTHER


def tokens_of(text):
    """The runs of letters, the runs of digits, and the other signs but blanks of a text."""
    tokens = []
    place = 0
    while place < len(text):
        kind = _kind(text[place])
        end = place + 1
        while kind != OTHER and end < len(text) and _kind(text[end]) == kind:
            end += 1
        if text[place] != " ":
            tokens.append(text[place:end])
        place = end
    return tokens


class Reader:
    """Takes the tokens of a line one behind another; BadLine at the first one that does not fit.

    What is taken is asked for by what may stand there and nothing else. So a line whose tokens
    were all taken so far can go on to a right one, and the wrong token is the first one that can't
    be taken, or the end.
    """

    def __init__(self, text):
        self.tokens = tokens_of(text)
        self.place = 0

    def ahead(self):
        """The token that is to be taken next, an empty string at the end."""
        return self.tokens[self.place] if self.place < len(self.tokens) else ""

    def skip(self, wanted):
        if self.ahead() != wanted:
            raise BadLine(self.place)
        self.place += 1

    def skip_end(self):
        if self.place < len(self.tokens):
            raise BadLine(self.place)

    def take_name(self, taken):
        """A name that is none of those taken."""
        token = self.ahead()
        if not is_name(token) or token in taken:
            raise BadLine(self.place)
        self.place += 1
        return token

    def take_number(self, fitting):
        """One of these numbers."""
        token = self.ahead()
        if token not in [f"{number}" for number in fitting]:
            raise BadLine(self.place)
        self.place += 1
        return int(token)
