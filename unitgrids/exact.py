"""The package's helper: integers and fractions, which are pairs (top, bottom) in lowest terms."""

from math import gcd, lcm


def is_whole(thing):
    """Whether a thing is an integer; flags are none, though Python makes them a kind of int."""
    return isinstance(thing, int) and not isinstance(thing, bool)


def is_index(thing, many):
    """Whether a thing is the number of one of so many things."""
    return is_whole(thing) and 0 <= thing < many


def is_pair(thing):
    """Whether a thing is a tuple of two."""
    return isinstance(thing, tuple) and len(thing) == 2


def is_fraction(thing):
    """Whether a thing is a pair of integers in lowest terms, the second one from 1 on."""
    if not is_pair(thing):
        return False
    top, bottom = thing
    return is_whole(top) and is_whole(bottom) and bottom >= 1 and gcd(top, bottom) == 1


def is_above_nought(thing):
    """Whether a thing is a fraction above 0."""
    return is_fraction(thing) and thing[0] > 0


def lowest(top, bottom):
    """The fraction of a top and a bottom from 1 on, in lowest terms."""
    common = gcd(top, bottom)
    return (top // common, bottom // common)


def plus(one, other):
    """The sum of two fractions."""
    return lowest(one[0] * other[1] + other[0] * one[1], one[1] * other[1])


def less(one, other):
    """The first fraction less the second one."""
    return plus(one, (-other[0], other[1]))


def times(one, other):
    """The product of two fractions."""
    return lowest(one[0] * other[0], one[1] * other[1])


def sum_of_products(pairs):
    """The sum of the products of pairs of fractions."""
    top = 0
    bottom = 1
    for one, other in pairs:
        below = one[1] * other[1]
        common = gcd(bottom, below)
        top = top * (below // common) + one[0] * other[0] * (bottom // common)
        bottom = bottom * (below // common)
    # Great numbers are slow to be brought to lowest terms: so this is done once, not for each part.
    return lowest(top, bottom)


def as_wholes(fractions):
    """Integers, and the integer from 1 on by which these are to be divided to give the fractions."""
    common = 1
    for fraction in fractions:
        common = lcm(common, fraction[1])
    return ([top * (common // bottom) for top, bottom in fractions], common)


def whole_power(number, power):
    """An integer to a power from 0 on, by squares: powers here go into the thousands."""
    result = 1
    square = number
    left = power
    while left > 0:
        if left % 2 == 1:
            result = result * square
        square = square * square
        left = left // 2
    return result


def raised(fraction, power):
    """A fraction above 0 to any integer power."""
    top, bottom = fraction
    if power < 0:
        top, bottom = bottom, top
    # A top and a bottom without a common divisor have powers without one.
    return (whole_power(top, abs(power)), whole_power(bottom, abs(power)))
