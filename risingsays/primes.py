"""Books modulo primes: the book at a prime, and the primes at which other unknowns are leads."""

from risingsays.checks import MOST_FIELD, is_prime, is_within
from risingsays.closing import closed_search
from risingsays.errors import BadParameter
from risingsays.free import rows_of
from risingsays.sayings import made_whole, need_book

MOST_SOUGHT = 47


def at_prime(book, prime):
    """Return the book with its sayings taken modulo the prime."""
    need_whole_book(book)
    need_prime(prime)
    return taken_at(book, prime)


def is_bad_prime(book, prime):
    """Tell whether modulo the prime other unknowns are leads."""
    need_whole_book(book)
    need_prime(prime)
    return leads_told(book) != leads_told(taken_at(book, prime))


def bad_primes(book, most):
    """Return the primes up to the most that are bad."""
    need_whole_book(book)
    if not is_within(most, 0, MOST_SOUGHT):
        raise BadParameter(most)
    rows = leads_told(book)
    return tuple([prime for prime in range(most + 1) if is_prime(prime) and leads_told(taken_at(book, prime)) != rows])


def need_whole_book(book):
    """Refuse what is no book of the field 0."""
    need_book(book)
    if book[0] != 0:
        raise BadParameter(book)


def need_prime(prime):
    """Refuse what is no prime that is a field."""
    if not is_within(prime, 0, MOST_FIELD) or not is_prime(prime):
        raise BadParameter(prime)


def taken_at(book, prime):
    """Return a checked book of the field 0 with its sayings taken modulo the prime."""
    _, kinds, sayings = book
    found = []
    for width, terms in sayings:
        left = [(coef % prime, kind, places) for coef, kind, places in terms if coef % prime != 0]
        if len(left) > 0:
            found.append((width, made_whole(prime, tuple(left))))
    return (prime, kinds, tuple(found))


def leads_told(book):
    """Return for each kind the gaps of the leads of the closed list of a checked book."""
    return rows_of(book[1], closed_search(book, ()))
