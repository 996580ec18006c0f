"""Checks of plain values that the other files share."""

from risingsays.errors import BadParameter

MOST_FIELD = 997
MOST_KINDS = 8
MOST_ARITY = 3
MOST_PLACES = 40

# A number up to 997 that none of these divides is a prime, as 37 * 37 is greater.
LOW_PRIMES = (2, 3, 5, 7, 11, 13, 17, 19, 23, 29, 31)


def is_integer(value):
    """Tell whether a value is an integer; True and False are none."""
    return type(value) is int


def is_within(value, low, high):
    """Tell whether a value is an integer from low to high."""
    return is_integer(value) and low <= value <= high


def is_tuple(value, low, high):
    """Tell whether a value is a tuple of low to high things."""
    return type(value) is tuple and low <= len(value) <= high


def is_rising(value, many):
    """Tell whether a value is a SET of some of the integers from 0 to many - 1."""
    if type(value) is not tuple:
        return False
    least = 0
    for place in value:
        if not is_within(place, least, many - 1):
            return False
        least = place + 1
    return True


def is_map(value, width, many):
    """Tell whether a value is a rising map of so many places into many."""
    return is_tuple(value, width, width) and is_rising(value, many)


def is_prime(number):
    """Tell whether an integer up to 997 is a prime."""
    for prime in LOW_PRIMES:
        if number % prime == 0:
            return number == prime
    return number > 1


def is_field(value):
    """Tell whether a value is a FIELD."""
    return is_within(value, 0, MOST_FIELD) and (value == 0 or is_prime(value))


def wrong_in_kinds(kinds):
    """Return the place at which a value is no KINDS, None if it is."""
    if not is_tuple(kinds, 1, MOST_KINDS):
        return ()
    for at, arity in enumerate(kinds):
        if not is_within(arity, 0, MOST_ARITY):
            return (at,)
    return None


def need_field(field):
    """Return a FIELD, refuse anything else."""
    if not is_field(field):
        raise BadParameter(field)
    return field


def need_kinds(kinds):
    """Return KINDS, refuse anything else."""
    if wrong_in_kinds(kinds) is not None:
        raise BadParameter(kinds)
    return kinds


def need_many(many):
    """Return a number of places, refuse anything else."""
    if not is_within(many, 0, MOST_PLACES):
        raise BadParameter(many)
    return many


def need_rising(places, many):
    """Return a SET of some of so many places, refuse anything else."""
    if not is_rising(places, many):
        raise BadParameter(places)
    return places
