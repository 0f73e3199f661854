"""Expressions: read from tokens, told as text, and gone through.

All this goes without calls in one another: expressions are nested as deeply as their lines are long.
"""

from unitgrids.errors import BadLine
from unitgrids.words import STAR_WORD

SIGNS = {"/": "above", "|": "beside", "+": "plus", "*": "times"}
# What has a higher level binds closer.
LEVELS = {"above": 1, "beside": 2, "plus": 3, "times": 4, "turned": 5, "power": 5, "piece": 5}
OUTER_LEVEL = 1
BEHIND_LEVEL = 5
MOST_ARGUMENTS = 4
MOST_POWER = 40
NUMBERS_OF_PIECE = 4


def read_expression(reader):
    """The tree of the expression that all tokens ahead are."""
    # Trees that are read, and what is begun: signs that wait for what stands right of them, and
    # (word, arguments ahead) for parentheses.
    done = []
    begun = []
    is_more = True
    while is_more:
        _read_begin(reader, done, begun)
        is_more = _read_behind(reader, done, begun)
    return done[0]


def _read_begin(reader, done, begun):
    """Read parentheses that are opened, and the name behind them."""
    while True:
        if reader.ahead() == "(":
            reader.skip("(")
            begun.append(("", 0))
        elif reader.ahead() == STAR_WORD:
            reader.skip(STAR_WORD)
            reader.skip("(")
            begun.append((STAR_WORD, 0))
        else:
            name = reader.take_name(())
            if reader.ahead() != "(":
                done.append(("name", name))
                return
            reader.skip("(")
            begun.append((name, 0))


def _read_behind(reader, done, begun):
    """Read what may stand behind a name or a closed parenthesis; whether something more has to come."""
    while True:
        token = reader.ahead()
        if token == "'" or token == "^" or token == "[":
            done.append(_read_suffix(reader, done.pop()))
        elif token in SIGNS:
            reader.skip(token)
            _end_signs(done, begun, LEVELS[SIGNS[token]])
            begun.append(token)
            return True
        else:
            _end_signs(done, begun, OUTER_LEVEL)
            if token == ")" and len(begun) > 0:
                reader.skip(")")
                _close(done, begun)
            elif token == "," and _may_have_more(begun):
                reader.skip(",")
                word, ahead = begun.pop()
                begun.append((word, ahead + 1))
                return True
            elif token == "" and len(begun) == 0:
                return False
            else:
                raise BadLine(reader.place)


def _read_suffix(reader, tree):
    """A tree with the sign behind it that binds closest."""
    if reader.ahead() == "'":
        reader.skip("'")
        return ("turned", tree)
    if reader.ahead() == "^":
        reader.skip("^")
        return ("power", tree, reader.take_one_of(list(range(1, MOST_POWER + 1))))
    numbers = []
    reader.skip("[")
    while len(numbers) < NUMBERS_OF_PIECE:
        if len(numbers) > 0:
            reader.skip(",")
        # A piece that doesn't fit is a fault of the name that is defined, and its line a right one.
        numbers.append(reader.take_number())
    reader.skip("]")
    return ("piece", tree) + tuple(numbers)


def _end_signs(done, begun, level):
    """Put together what the last signs stand between, down to a level, or to an open parenthesis."""
    while len(begun) > 0 and isinstance(begun[-1], str) and LEVELS[SIGNS[begun[-1]]] >= level:
        kind = SIGNS[begun.pop()]
        right = done.pop()
        left = done.pop()
        done.append((kind, left, right))


def _may_have_more(begun):
    """Whether the last open parenthesis is a maker's, with place for an argument more."""
    if len(begun) == 0:
        return False
    word, ahead = begun[-1]
    return word != "" and word != STAR_WORD and ahead + 1 < MOST_ARGUMENTS


def _close(done, begun):
    """Put together what the last open parenthesis belongs to."""
    word, ahead = begun.pop()
    if word == STAR_WORD:
        done.append(("star", done.pop()))
    elif word != "":
        arguments = tuple(done[len(done) - ahead - 1:])
        del done[len(done) - ahead - 1:]
        done.append(("call", word, arguments))


def operands(tree):
    """The expressions that stand straight in another one, from the left."""
    if tree[0] == "name":
        return ()
    if tree[0] == "call":
        return tree[2]
    return tree[1:3] if tree[0] in list(SIGNS.values()) else tree[1:2]


def names_in(tree):
    """A dict with each name that stands in an expression."""
    found = {}
    waiting = [tree]
    while len(waiting) > 0:
        part = waiting.pop()
        if part[0] == "name" or part[0] == "call":
            found[part[1]] = True
        waiting.extend(list(operands(part)))
    return found


def expression_text(tree):
    """An expression as a line tells it."""
    words = []
    waiting = [(tree, OUTER_LEVEL)]
    while len(waiting) > 0:
        thing, level = waiting.pop()
        if isinstance(thing, str):
            words.append(thing)
        else:
            waiting.extend(_told_parts(thing, level)[::-1])
    return "".join(words)


def _told_parts(tree, level):
    """Words, and expressions with the levels that they need not to stand in parentheses, in their order."""
    kind = tree[0]
    if kind == "name":
        return [(tree[1], 0)]
    if kind == "call" or kind == "star":
        word = STAR_WORD if kind == "star" else tree[1]
        return [(f"{word}(", 0)] + _told_list(operands(tree)) + [(")", 0)]
    own = LEVELS[kind]
    parts = [(tree[1], own)]
    if kind == "turned":
        parts.append(("'", 0))
    elif kind == "power":
        parts.append((f"^{tree[2]}", 0))
    elif kind == "piece":
        numbers = ", ".join([f"{number}" for number in tree[2:]])
        parts.append((f"[{numbers}]", 0))
    else:
        parts.extend([(f" {_sign_of(kind)} ", 0), (tree[2], own + 1)])
    return parts if own >= level else [("(", 0)] + parts + [(")", 0)]


def _told_list(trees):
    """Expressions with commas between."""
    parts = []
    for tree in trees:
        if len(parts) > 0:
            parts.append((", ", 0))
        parts.append((tree, OUTER_LEVEL))
    return parts


def _sign_of(kind):
    return [sign for sign, told in SIGNS.items() if told == kind][0]
