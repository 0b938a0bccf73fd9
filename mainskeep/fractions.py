"""Fractions: tuples (top, bottom) of whole numbers without a common divisor, the bottom from 1 on."""

from mainskeep.errors import NoFraction
from mainskeep.kinds import is_row, is_whole_number


def common_divisor(one, other):
    """The greatest common divisor of two whole numbers, 0 where both are 0."""
    while other != 0:
        one, other = other, one % other
    return abs(one)


def fraction(top, bottom):
    """The fraction of that top and that bottom."""
    if bottom == 0:
        raise NoFraction("a fraction has no bottom 0")
    divisor = common_divisor(top, bottom)
    # The sign goes along with the divisor, so that the bottom ends up above 0.
    if bottom < 0:
        divisor = -divisor
    return (top // divisor, bottom // divisor)


def plus(u, v):
    """The sum of two fractions."""
    return fraction(u[0] * v[1] + v[0] * u[1], u[1] * v[1])


def minus(u, v):
    """The first fraction less the second one."""
    return fraction(u[0] * v[1] - v[0] * u[1], u[1] * v[1])


def times(u, v):
    """The product of two fractions."""
    return fraction(u[0] * v[0], u[1] * v[1])


def over(u, v):
    """The first fraction divided by the second one."""
    # Divided by (0, 1) the bottom is 0, which fraction refuses.
    return fraction(u[0] * v[1], u[1] * v[0])


def summed(parts):
    """The sum of a list of fractions."""
    found = (0, 1)
    for part in parts:
        found = plus(found, part)
    return found


def is_less(u, v):
    """Whether the first fraction is worth less than the second one."""
    # Bottoms are above 0, so multiplying by them keeps the order.
    return u[0] * v[1] < v[0] * u[1]


def is_fraction(thing):
    """Whether any thing is a fraction."""
    if not is_row(thing, 2, 2):
        return False
    top, bottom = thing
    if not is_whole_number(top) or not is_whole_number(bottom):
        return False
    return bottom >= 1 and common_divisor(top, bottom) == 1
