"""Units: tuples of exponents, one for each base unit; and what changes of units make of numbers."""

from unitgrids.errors import NoFraction, NoRoots, NoScale, NoUnit, OtherBases
from unitgrids.exact import is_above_nought, is_fraction, is_whole, less, lowest, plus, raised, times

MOST_BASES = 3


def is_any_unit(thing):
    """Whether a thing is a unit for some number of base units."""
    if not isinstance(thing, tuple) or not 1 <= len(thing) <= MOST_BASES:
        return False
    return all([is_fraction(exponent) for exponent in thing])


def is_unit(bases, thing):
    """Whether a thing is a unit for so many base units."""
    return is_any_unit(thing) and len(thing) == bases


def _check_two(one, other):
    """Raise what is wrong with two units that are to be put together."""
    if not is_any_unit(one) or not is_any_unit(other):
        raise NoUnit()
    if len(one) != len(other):
        raise OtherBases()


def times_unit(one, other):
    """The unit of a product: the exponents added."""
    _check_two(one, other)
    return tuple([plus(first, second) for first, second in zip(one, other)])


def by_unit(one, other):
    """The unit of a quotient: the second exponents taken from the first ones."""
    _check_two(one, other)
    return tuple([less(first, second) for first, second in zip(one, other)])


def power_unit(unit, power):
    """The unit of a power: each exponent times a fraction."""
    if not is_any_unit(unit):
        raise NoUnit()
    if not is_fraction(power):
        raise NoFraction()
    return tuple([times(exponent, power) for exponent in unit])


def are_roots(bases, thing):
    """Whether a thing is a tuple with a fraction above 0 for each of so many base units."""
    if not isinstance(thing, tuple) or len(thing) != bases:
        return False
    return all([is_above_nought(root) for root in thing])


def _is_scale(unit, thing):
    """Whether a thing is an integer from 1 on that makes an integer of each exponent."""
    if not is_whole(thing) or thing < 1:
        return False
    return all([(thing * top) % bottom == 0 for top, bottom in unit])


def factor(unit, roots, scale):
    """What a change of units multiplies a number in this unit by."""
    if not is_any_unit(unit):
        raise NoUnit()
    if not are_roots(len(unit), roots):
        raise NoRoots()
    if not _is_scale(unit, scale):
        raise NoScale()
    product = (1, 1)
    for (top, bottom), root in zip(unit, roots):
        product = times(product, raised(root, (scale * top) // bottom))
    return product


def exponents(unit, scale):
    """The exponents of a unit, each times a scale that fits it: integers, which are added faster."""
    return tuple([(scale * top) // bottom for top, bottom in unit])


def unit_of(scaled, scale):
    """The unit whose exponents, times a scale, are these integers."""
    return tuple([lowest(exponent, scale) for exponent in scaled])


def together(one, other):
    """The sums of two units' scaled exponents."""
    return tuple([first + second for first, second in zip(one, other)])


def without(one, other):
    """The first unit's scaled exponents less the second one's."""
    return tuple([first - second for first, second in zip(one, other)])
