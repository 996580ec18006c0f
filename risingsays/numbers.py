"""Numbers of a field: fractions in least terms, or integers modulo a prime."""

from math import gcd

from risingsays.checks import is_integer, need_field
from risingsays.errors import BadParameter

NOUGHT = (0, 1)
ONE = (1, 1)


def number_of(field, above, below):
    """Return the NUMBER that is one integer divided by another one."""
    need_field(field)
    if not is_integer(above):
        raise BadParameter(above)
    if not is_integer(below) or is_nought(field, below):
        raise BadParameter(below)
    return divided(field, above, below)


def need_number(field, value):
    """Return a NUMBER of the field, refuse anything else."""
    need_field(field)
    if not is_number(field, value):
        raise BadParameter(value)
    return value


def plus(field, one, other):
    """Return the sum of two NUMBERS."""
    need_both(field, one, other)
    return sum_of(field, one, other)


def minus(field, one, other):
    """Return what is left of one NUMBER without the other one."""
    need_both(field, one, other)
    return sum_of(field, one, negative(field, other))


def times(field, one, other):
    """Return the product of two NUMBERS."""
    need_both(field, one, other)
    return product_of(field, one, other)


def over(field, one, other):
    """Return one NUMBER divided by the other one."""
    need_both(field, one, other)
    if other == NOUGHT:
        raise BadParameter(other)
    return quotient_of(field, one, other)


def need_both(field, one, other):
    """Refuse the first one of two values that is no NUMBER of the field."""
    need_number(field, one)
    need_number(field, other)


def is_number(field, value):
    """Tell whether a value is a NUMBER of the field."""
    if type(value) is not tuple or len(value) != 2:
        return False
    above, below = value
    if not is_integer(above) or not is_integer(below):
        return False
    if field:
        return below == 1 and 0 <= above < field
    return below >= 1 and gcd(above, below) == 1


def is_nought(field, integer):
    """Tell whether an integer is 0 in the field."""
    if field:
        return integer % field == 0
    return integer == 0


def is_coef(field, value):
    """Tell whether a value is a COEF of the field."""
    if not is_integer(value) or value == 0:
        return False
    return field == 0 or 0 < value < field


def divided(field, above, below):
    """Return the NUMBER that is an integer divided by another one that is not 0 in the field."""
    if field:
        return (above * inverse(field, below) % field, 1)
    common = gcd(above, below)
    if below < 0:
        common = -common
    return (above // common, below // common)


def inverse(prime, integer):
    """Return what the integer is to be multiplied by to come to 1 modulo the prime."""
    # By Fermat the power with prime - 2; it is made by squaring.
    power = 1
    base = integer % prime
    left = prime - 2
    while left > 0:
        if left % 2 == 1:
            power = power * base % prime
        base = base * base % prime
        left = left // 2
    return power


def sum_of(field, one, other):
    """Return the sum of two NUMBERS that have been checked."""
    if field:
        return ((one[0] + other[0]) % field, 1)
    if one[1] == 1 and other[1] == 1:
        return (one[0] + other[0], 1)
    return divided(0, one[0] * other[1] + other[0] * one[1], one[1] * other[1])


def product_of(field, one, other):
    """Return the product of two NUMBERS that have been checked."""
    if field:
        return (one[0] * other[0] % field, 1)
    if one[1] == 1 and other[1] == 1:
        return (one[0] * other[0], 1)
    return divided(0, one[0] * other[0], one[1] * other[1])


def quotient_of(field, one, other):
    """Return one NUMBER divided by another one that is not nought, both checked."""
    if other == ONE:
        return one
    return divided(field, one[0] * other[1], one[1] * other[0])


def negative(field, one):
    """Return the negative of a NUMBER that has been checked."""
    if field:
        return (-one[0] % field, 1)
    return (-one[0], one[1])
