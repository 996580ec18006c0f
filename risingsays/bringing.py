"""Bringing terms to nothing by the sayings of a book, and the overlaps that tell whether it is closed."""

from heapq import heappop, heappush
from math import lcm

from risingsays.gaps import are_reached, gaps_between, joined_gaps, placed
from risingsays.numbers import NOUGHT, ONE, negative, product_of, quotient_of, sum_of
from risingsays.sayings import carry, combined, need_book, need_terms, unknown_rank, whole_of_coefs


def brought(book, many, terms):
    """Return, whole, what the sayings of the book leave of the terms."""
    field, kinds, sayings = need_book(book)
    need_terms(field, kinds, many, terms)
    return what_is_left(field, leads_of(sayings), many, terms)


def overlaps(book):
    """Return where the sayings of the book overlap themselves and one another, all whole."""
    field, _, sayings = need_book(book)
    found = []
    for at, saying in enumerate(sayings):
        found.extend(overlaps_with_itself(field, saying))
        for other in sayings[:at]:
            if lead_kind(other) == lead_kind(saying):
                found.append(overlap_of(field, saying, other))
    return tuple(found)


def is_closed(book):
    """Tell whether the book brings all its overlaps to nothing."""
    need_book(book)
    leads = leads_of(book[2])
    for many, terms in overlaps(book):
        if what_is_left(book[0], leads, many, terms) != ():
            return False
    return True


def lead_kind(saying):
    """Return the kind of a saying's lead."""
    return saying[1][0][1]


def lead_gaps(saying):
    """Return the gaps of a saying's lead."""
    return gaps_between(saying[0], saying[1][0][2])


def leads_of(sayings):
    """Return a dict with, for each kind, the gaps of the leads of this kind and the terms, in their order."""
    leads = {}
    for saying in sayings:
        leads.setdefault(lead_kind(saying), []).append((lead_gaps(saying), saying[1]))
    return leads


def lowest_map(gaps, places):
    """Return the rising map that leads a lead with the gaps to the places, all other places as low as can be."""
    found = []
    start = 0
    for gap, place in zip(gaps, places):
        found.extend(list(range(start, start + gap)))
        found.append(place)
        start = place + 1
    found.extend(list(range(start, start + gaps[-1])))
    return tuple(found)


def carried_to(leads, many, unknown):
    """Return the terms of the first saying that reaches the unknown, carried to it, None if there is none."""
    kind, places = unknown
    here = gaps_between(many, places)
    for gaps, terms in leads.get(kind, []):
        if are_reached(gaps, here):
            return carry(terms, lowest_map(gaps, places))
    return None


def what_is_left(field, leads, many, terms):
    """Return, whole, what the leads leave of terms that have been checked."""
    numbers = {}
    queue = []
    put(field, numbers, queue, ONE, terms)
    left = {}
    while len(queue) > 0:
        # What is put in below is less than what is taken out: so each unknown is taken once, when it is done.
        unknown = heappop(queue)[1]
        number = numbers[unknown]
        if number == NOUGHT:
            continue
        taken = carried_to(leads, many, unknown)
        if taken is None:
            left[unknown] = number
        else:
            factor = negative(field, quotient_of(field, number, (taken[0][0], 1)))
            put(field, numbers, queue, factor, taken[1:])
    return whole_of_numbers(field, left)


def put(field, numbers, queue, factor, terms):
    """Add factor times the terms to the numbers; the queue gets the unknowns that are new, the greatest first."""
    for coef, kind, places in terms:
        unknown = (kind, places)
        if unknown not in numbers:
            numbers[unknown] = NOUGHT
            heappush(queue, (-unknown_rank(unknown), unknown))
        numbers[unknown] = sum_of(field, numbers[unknown], product_of(field, factor, (coef, 1)))


def whole_of_numbers(field, numbers):
    """Return the whole terms that are a multiple of what has these numbers at its unknowns."""
    common = 1
    for number in numbers.values():
        common = lcm(common, number[1])
    return whole_of_coefs(field, {unknown: above * (common // below) for unknown, (above, below) in numbers.items()})


def overlaps_with_itself(field, saying):
    """Return what comes of the places that a saying's lead does not have."""
    width, terms = saying
    found = []
    for idle in range(width):
        if idle not in terms[0][2]:
            one = carry(terms, all_but(idle + 1, width + 1))
            other = carry(terms, all_but(idle, width + 1))
            found.append((width + 1, combined(field, 1, one, -1, other)))
    return found


def all_but(place, many):
    """Return all of so many places but one."""
    return tuple([other for other in range(many) if other != place])


def overlap_of(field, saying, other):
    """Return a saying less another one with a lead of its kind, where both leads come together lowest."""
    gaps = joined_gaps((lead_gaps(saying), lead_gaps(other)))
    many, places = placed(gaps)
    one = carry(saying[1], lowest_map(lead_gaps(saying), places))
    less = carry(other[1], lowest_map(lead_gaps(other), places))
    # Multiplied by both leads' coefs: the whole terms are the same as with 1 at both leads.
    return (many, combined(field, less[0][0], one, -one[0][0], less))
