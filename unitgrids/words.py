"""Words of lines: those of units, and names."""

from unitgrids.errors import NoUnit
from unitgrids.units import is_any_unit

MOST_LETTERS = 8
NOUGHT_WORD = "."
STAR_WORD = "star"


def _exponent_text(exponent):
    top, bottom = exponent
    return f"{top}" if bottom == 1 else f"{top}/{bottom}"


def unit_text(unit):
    """A unit's word."""
    if not is_any_unit(unit):
        raise NoUnit()
    return ",".join([_exponent_text(exponent) for exponent in unit])


def cell_text(thing):
    """The word of a cell as a Grid has them."""
    return NOUGHT_WORD if thing is None else unit_text(thing)


def is_name(thing):
    """Whether a thing is a name."""
    if not isinstance(thing, str) or not 1 <= len(thing) <= MOST_LETTERS or thing == STAR_WORD:
        return False
    return all(["a" <= sign <= "z" for sign in thing])
