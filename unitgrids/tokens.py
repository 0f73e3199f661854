"""The tokens of a line, and a reader that goes from one to the next one."""

from unitgrids.errors import BadLine
from unitgrids.words import is_name

LETTER = 1
DIGIT = 2
OTHER = 3
# As many as integers that are passed have at most; Python itself reads none of some thousand digits.
MOST_DIGITS = 40


def _kind(sign):
    if sign.isalpha():
        return LETTER
    return DIGIT if sign.isdigit() else OTHER


def tokens_of(text):
    """The runs of letters, the runs of digits, and the other signs but blanks of a text."""
    tokens = []
    place = 0
    while place < len(text):
        kind = _kind(text[place])
        end = place + 1
        while kind != OTHER and end < len(text) and _kind(text[end]) == kind:
            end += 1
        if text[place] != " ":
            tokens.append(text[place:end])
        place = end
    return tokens


def _is_number(token):
    """Whether a token is a number without a needless 0 that has not too many digits."""
    if not 1 <= len(token) <= MOST_DIGITS or (token[0] == "0" and token != "0"):
        return False
    return all(["0" <= sign <= "9" for sign in token])


class Reader:
    """Takes the tokens of a line one behind another; BadLine at the first one that does not fit.

    What is taken is asked for by what may stand there and nothing else. So a line whose tokens
    were all taken so far can go on to a right one, and the wrong token is the first one that can't
    be taken, or the end.
    """

    def __init__(self, text):
        self.tokens = tokens_of(text)
        self.place = 0

    def ahead(self):
        """The token that is to be taken next, an empty string at the end."""
        return self.tokens[self.place] if self.place < len(self.tokens) else ""

    def skip(self, wanted):
        if self.ahead() != wanted:
            raise BadLine(self.place)
        self.place += 1

    def skip_end(self):
        if self.place < len(self.tokens):
            raise BadLine(self.place)

    def take_name(self, taken):
        """A name that is none of those taken."""
        token = self.ahead()
        if not is_name(token) or token in taken:
            raise BadLine(self.place)
        self.place += 1
        return token

    def take_number(self):
        """A number of as many digits as there may be."""
        token = self.ahead()
        if not _is_number(token):
            raise BadLine(self.place)
        self.place += 1
        return int(token)

    def take_one_of(self, fitting):
        """One of these numbers."""
        if self.ahead() not in [f"{number}" for number in fitting]:
            raise BadLine(self.place)
        return self.take_number()
