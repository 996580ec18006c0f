"""Unknowns, terms, sayings and books: what they are, and what is made of them."""

from itertools import combinations
from math import comb, gcd

from risingsays.checks import MOST_PLACES
from risingsays.checks import is_field, is_map, is_tuple, is_within, wrong_in_kinds
from risingsays.checks import need_field, need_kinds, need_many, need_rising
from risingsays.errors import BadBook, BadParameter, BadSaying, BadTerms, TooGreat
from risingsays.numbers import inverse, is_coef, need_number

MOST_WIDTH = 6
MOST_SAYINGS = 60
MOST_UNKNOWNS = 400

# A book has up to 8 kinds, together with their copies or with the kinds of rules twice as many.
RANKED_KINDS = 16

# Greater than the rank of each unknown on up to 40 places.
AHEAD = 1 << 50


def unknowns(kinds, many):
    """Return all unknowns on so many places, the least one first."""
    need_kinds(kinds)
    need_many(many)
    need_few_unknowns(kinds, many)
    return all_unknowns(kinds, many)


def need_terms(field, kinds, many, terms):
    """Return TERMS on so many places, refuse anything else."""
    need_field(field)
    need_kinds(kinds)
    need_many(many)
    place = wrong_in_terms(field, kinds, many, terms)
    if place is not None:
        raise BadTerms(place)
    return terms


def need_saying(field, kinds, saying):
    """Return a saying, refuse anything else."""
    need_field(field)
    need_kinds(kinds)
    place = wrong_in_saying(field, kinds, saying)
    if place is not None:
        raise BadSaying(place)
    return saying


def need_book(book):
    """Return a book, refuse anything else."""
    place = wrong_in_book(book)
    if place is not None:
        raise BadBook(place)
    return book


def carried(field, kinds, places, terms):
    """Return the terms carried by the rising map."""
    need_field(field)
    need_kinds(kinds)
    need_rising(places, MOST_PLACES)
    need_terms(field, kinds, len(places), terms)
    return carry(terms, places)


def whole(field, kinds, many, terms):
    """Return the whole terms that are a multiple of the terms."""
    need_terms(field, kinds, many, terms)
    return made_whole(field, terms)


def added(field, kinds, many, terms, others, factor):
    """Return, whole, the sum of the terms and of factor times the others."""
    need_terms(field, kinds, many, terms)
    need_terms(field, kinds, many, others)
    need_number(field, factor)
    above, below = factor
    # What is made whole anyway may be multiplied by what is below ahead of it.
    return combined(field, below, terms, above, others)


def turned(field, kinds, saying, order):
    """Return the saying with each place I become order[I]."""
    need_saying(field, kinds, saying)
    if not is_order(order, saying[0]):
        raise BadParameter(order)
    return turn(saying, order)


def mirrored(field, kinds, saying):
    """Return the saying with its places turned from the last to the first."""
    need_saying(field, kinds, saying)
    return mirror(saying)


def count_unknowns(kinds, many):
    """Return how many unknowns there are on so many places."""
    return sum([comb(many, arity) for arity in kinds])


def need_few_unknowns(kinds, many):
    """Refuse more unknowns than a table may have."""
    if count_unknowns(kinds, many) > MOST_UNKNOWNS:
        raise TooGreat(MOST_UNKNOWNS)


def need_few_sayings(sayings):
    """Refuse more sayings than a book may have."""
    if len(sayings) > MOST_SAYINGS:
        raise TooGreat(MOST_SAYINGS)


def rising_maps(width, many):
    """Return all rising maps of width places into many, ascending."""
    return list(combinations(range(many), width))


def rank(kind, places):
    """Return an integer that is the greater, the greater the unknown is."""
    # The greatest place that just one of two unknowns has is the highest bit in which they differ.
    return sum([1 << place for place in places]) * RANKED_KINDS + kind


def unknown_rank(unknown):
    """Return the rank of an unknown."""
    return rank(unknown[0], unknown[1])


def term_rank(term):
    """Return the rank of a term's unknown."""
    return rank(term[1], term[2])


def rank_with(ahead, kind, places):
    """Return the rank of an unknown where all unknowns of the kinds ahead are greater than all others."""
    if kind in ahead:
        return AHEAD + rank(kind, places)
    return rank(kind, places)


def all_unknowns(kinds, many):
    """Return all unknowns, the least one first, without a bound."""
    found = [(kind, places) for kind, arity in enumerate(kinds) for places in rising_maps(arity, many)]
    return tuple(sorted(found, key=unknown_rank))


def is_term(field, kinds, many, value):
    """Tell whether a value is a term of these kinds on so many places."""
    if not is_tuple(value, 3, 3):
        return False
    coef, kind, places = value
    if not is_coef(field, coef) or not is_within(kind, 0, len(kinds) - 1):
        return False
    return is_map(places, kinds[kind], many)


def wrong_in_terms(field, kinds, many, terms):
    """Return the place at which a value is no TERMS, None if it is."""
    if type(terms) is not tuple:
        return ()
    ahead = None
    for at, term in enumerate(terms):
        if not is_term(field, kinds, many, term):
            return (at,)
        here = term_rank(term)
        if ahead is not None and here >= ahead:
            return (at,)
        ahead = here
    return None


def wrong_in_saying(field, kinds, saying):
    """Return the place at which a value is no saying, None if it is."""
    if not is_tuple(saying, 2, 2):
        return ()
    width, terms = saying
    if not is_within(width, 0, MOST_WIDTH):
        return (0,)
    place = wrong_in_terms(field, kinds, width, terms)
    if place is not None:
        return (1,) + place
    if len(terms) == 0:
        return (1,)
    return None


def wrong_in_sayings(field, kinds, sayings):
    """Return the place at which a value is no SAYINGS of a book, None if it is."""
    if not is_tuple(sayings, 0, MOST_SAYINGS):
        return ()
    for at, saying in enumerate(sayings):
        place = wrong_in_saying(field, kinds, saying)
        if place is not None:
            return (at,) + place
    return None


def wrong_in_book(book):
    """Return the place at which a value is no book, None if it is."""
    if not is_tuple(book, 3, 3):
        return ()
    field, kinds, sayings = book
    if not is_field(field):
        return (0,)
    place = wrong_in_kinds(kinds)
    if place is not None:
        return (1,) + place
    place = wrong_in_sayings(field, kinds, sayings)
    if place is not None:
        return (2,) + place
    return None


def carry(terms, places):
    """Return terms that have been checked, carried by the rising map."""
    return tuple([(coef, kind, tuple([places[at] for at in spots])) for coef, kind, spots in terms])


def made_whole(field, terms):
    """Return the whole multiple of terms that have been checked."""
    if len(terms) == 0:
        return ()
    first = terms[0][0]
    if field:
        factor = inverse(field, first)
        return tuple([(coef * factor % field, kind, places) for coef, kind, places in terms])
    common = 0
    for term in terms:
        common = gcd(common, term[0])
    if first < 0:
        common = -common
    return tuple([(coef // common, kind, places) for coef, kind, places in terms])


def whole_of_coefs(field, coefs, ahead=()):
    """Return the whole terms with these integers at their unknowns, those that come to 0 left out.

    They stand, and are made whole, by the order in which the unknowns of the kinds ahead are greater than all others.
    """
    terms = []
    for (kind, places), coef in coefs.items():
        if field:
            coef = coef % field
        if coef != 0:
            terms.append((coef, kind, places))
    return made_whole(field, sorted(terms, key=lambda term: rank_with(ahead, term[1], term[2]), reverse=True))


def summed_coefs(above, terms, factor, others):
    """Return a dict with the integers at the unknowns of the sum of two multiples by integers."""
    coefs = {}
    for coef, kind, places in terms:
        coefs[(kind, places)] = above * coef
    for coef, kind, places in others:
        unknown = (kind, places)
        coefs[unknown] = coefs.get(unknown, 0) + factor * coef
    return coefs


def combined(field, above, terms, factor, others):
    """Return, whole, the sum of two multiples by integers of terms that have been checked."""
    return whole_of_coefs(field, summed_coefs(above, terms, factor, others))


def is_order(order, width):
    """Tell whether a value is a tuple of all integers from 0 to width - 1, each once."""
    if not is_tuple(order, width, width):
        return False
    seen = set()
    for place in order:
        if not is_within(place, 0, width - 1) or place in seen:
            return False
        seen.add(place)
    return True


def turn(saying, order):
    """Return a saying that has been checked, each of its places I become order[I]."""
    width, terms = saying
    moved = [(coef, kind, tuple(sorted([order[at] for at in places]))) for coef, kind, places in terms]
    return (width, in_order(moved))


def mirror(saying):
    """Return a saying that has been checked, turned from its last place to its first one."""
    return turn(saying, list(reversed(range(saying[0]))))


def in_order(terms):
    """Return terms of unlike unknowns as they are written, the greatest unknown first."""
    return tuple(sorted(terms, key=term_rank, reverse=True))
