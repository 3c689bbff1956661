"""FRACTIONS: tuples (top, bottom) in lowest terms, the bottom from 1 on."""

from hatchwaits.kinds import is_number, is_number_from, is_tuple_of


def common_divisor(one, other):
    """The greatest NUMBER that divides both; not both are 0."""
    # A loop, since long numbers take more steps than calls may stand within one another.
    one, other = abs(one), abs(other)
    while other > 0:
        one, other = other, one % other
    return one


def is_fraction(thing):
    """Tell whether any thing is a FRACTION."""
    if not is_tuple_of(2, thing):
        return False
    top, bottom = thing
    return is_number(top) and is_number_from(1, bottom) and common_divisor(top, bottom) == 1


def fraction(top, bottom):
    """The FRACTION that top over bottom is, bottom not 0."""
    divisor = common_divisor(top, bottom)
    if bottom < 0:
        divisor = -divisor
    return (top // divisor, bottom // divisor)


def plus(one, other):
    """The sum of two FRACTIONS."""
    return fraction(one[0] * other[1] + other[0] * one[1], one[1] * other[1])


def minus(one, other):
    """The one FRACTION less the other."""
    return fraction(one[0] * other[1] - other[0] * one[1], one[1] * other[1])


def times(one, other):
    """The product of two FRACTIONS."""
    return fraction(one[0] * other[0], one[1] * other[1])


def over(one, other):
    """The one FRACTION over the other, which is not nought."""
    return fraction(one[0] * other[1], one[1] * other[0])


def power(one, n):
    """A FRACTION to the power of a NUMBER n from 0 on."""
    # No common divisor comes of multiplying with itself, so these are lowest terms already.
    top, bottom = 1, 1
    for turn in range(n):
        top, bottom = top * one[0], bottom * one[1]
    return (top, bottom)


def less(one, other):
    """Tell whether the one FRACTION is less than the other."""
    return one[0] * other[1] < other[0] * one[1]


def mean_of(pairs):
    """The mean of (number, lot) pairs: the numbers weighed by their lots."""
    weighed = sum([number * lot for number, lot in pairs])
    return fraction(weighed, sum([lot for number, lot in pairs]))
