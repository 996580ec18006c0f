"""Bringing terms to nothing by the sayings of a book, and the overlaps that tell whether it is closed."""

from heapq import heappop, heappush
from math import lcm

from risingsays.gaps import are_reached, gaps_between, joined_gaps, placed
from risingsays.numbers import NOUGHT, ONE, negative, product_of, quotient_of, sum_of
from risingsays.sayings import carry, need_book, need_terms, rank_with, summed_coefs, whole_of_coefs


def brought(book, many, terms):
    """Return, whole, what the sayings of the book leave of the terms."""
    field, kinds, sayings = need_book(book)
    need_terms(field, kinds, many, terms)
    return what_is_left(field, leads_of(sayings), many, terms)


def overlaps(book):
    """Return where the sayings of the book overlap themselves and one another, all whole."""
    field, _, sayings = need_book(book)
    found = []
    for at, saying in enumerate(sayings):
        for many, places, at_other, others in meetings(sayings, at):
            coefs = meeting_coefs(saying, places, sayings[at_other], others)
            found.append((many, whole_of_coefs(field, coefs)))
    return tuple(found)


def is_closed(book):
    """Tell whether the book brings all its overlaps to nothing."""
    need_book(book)
    leads = leads_of(book[2])
    for many, terms in overlaps(book):
        if what_is_left(book[0], leads, many, terms) != ():
            return False
    return True


def lead_kind(saying):
    """Return the kind of a saying's lead."""
    return saying[1][0][1]


def lead_gaps(saying):
    """Return the gaps of a saying's lead."""
    return gaps_between(saying[0], saying[1][0][2])


class Leads:
    """Sayings by their leads, in their order: which one is the first that reaches an unknown.

    Leads are the first terms, by the order in which the unknowns of the kinds ahead are greater than all others.
    """

    def __init__(self, ahead):
        self.ahead = ahead
        self.by_kind = {}
        self.known = {}

    def take_in(self, row, saying):
        """Put a saying behind the others; `row` is the number that it is called by."""
        self.by_kind.setdefault(lead_kind(saying), []).append((lead_gaps(saying), row, saying[1]))

    def reaching(self, many, unknown):
        """Return (ROW, PLACES, TERMS): the first saying that reaches the unknown, its map and its terms carried there.

        None if none does.
        """
        # Sayings are put in behind the others alone: so the first one that was found once stays the first one.
        key = (many, unknown)
        if key not in self.known:
            found = self.first_reaching(many, unknown)
            if found is None:
                return None
            self.known[key] = found
        return self.known[key]

    def first_reaching(self, many, unknown):
        """Return the same as `reaching`, looked for among all sayings."""
        kind, places = unknown
        here = gaps_between(many, places)
        for gaps, row, terms in self.by_kind.get(kind, []):
            if are_reached(gaps, here):
                chosen = lowest_map(gaps, places)
                return (row, chosen, carry(terms, chosen))
        return None


def leads_of(sayings):
    """Return the leads of sayings of a book, each called by its number."""
    leads = Leads(())
    for row, saying in enumerate(sayings):
        leads.take_in(row, saying)
    return leads


def lowest_map(gaps, places):
    """Return the rising map that leads a lead with the gaps to the places, all other places as low as can be."""
    found = []
    start = 0
    for gap, place in zip(gaps, places):
        found.extend(list(range(start, start + gap)))
        found.append(place)
        start = place + 1
    found.extend(list(range(start, start + gaps[-1])))
    return tuple(found)


def what_is_left(field, leads, many, terms):
    """Return, whole, what the leads leave of terms that have been checked."""
    left, _ = worked_on(field, leads, many, terms)
    return whole_of_numbers(field, left, leads.ahead)


def worked_on(field, leads, many, terms):
    """Return (LEFT, TAKEN) of terms that have been checked.

    LEFT is a dict with the numbers of what is left, TAKEN a list of (NUMBER, ROW, PLACES): what was added to the
    terms to come to it, a number times the saying ROW carried by the map PLACES.
    """
    numbers = {}
    queue = []
    put(field, numbers, queue, leads.ahead, ONE, terms)
    left = {}
    taken = []
    while len(queue) > 0:
        # What is put in below is less than what is taken out: so each unknown is taken once, when it is done.
        unknown = heappop(queue)[1]
        number = numbers[unknown]
        if number == NOUGHT:
            continue
        found = leads.reaching(many, unknown)
        if found is None:
            left[unknown] = number
        else:
            row, places, moved = found
            factor = negative(field, quotient_of(field, number, (moved[0][0], 1)))
            taken.append((factor, row, places))
            put(field, numbers, queue, leads.ahead, factor, moved[1:])
    return (left, taken)


def put(field, numbers, queue, ahead, factor, terms):
    """Add factor times the terms to the numbers; the queue gets the unknowns that are new, the greatest first."""
    for coef, kind, places in terms:
        unknown = (kind, places)
        if unknown not in numbers:
            numbers[unknown] = NOUGHT
            heappush(queue, (-rank_with(ahead, kind, places), unknown))
        numbers[unknown] = sum_of(field, numbers[unknown], product_of(field, factor, (coef, 1)))


def whole_of_numbers(field, numbers, ahead):
    """Return the whole terms that are a multiple of what has these numbers at its unknowns."""
    common = 1
    for number in numbers.values():
        common = lcm(common, number[1])
    coefs = {unknown: above * (common // below) for unknown, (above, below) in numbers.items()}
    return whole_of_coefs(field, coefs, ahead)


def meetings(sayings, at):
    """Return a list of (MANY, PLACES, AT, OTHERS): how a saying meets itself, then each one ahead of it.

    Carried by PLACES it has its lead where the saying AT has its own when this is carried by OTHERS.
    """
    saying = sayings[at]
    found = []
    for idle in range(saying[0]):
        if idle not in saying[1][0][2]:
            many = saying[0] + 1
            found.append((many, all_but(idle + 1, many), at, all_but(idle, many)))
    gaps = lead_gaps(saying)
    for at_other, other in enumerate(sayings[:at]):
        if lead_kind(other) == lead_kind(saying):
            less = lead_gaps(other)
            many, places = placed(joined_gaps((gaps, less)))
            found.append((many, lowest_map(gaps, places), at_other, lowest_map(less, places)))
    return found


def all_but(place, many):
    """Return all of so many places but one."""
    return tuple([other for other in range(many) if other != place])


def meeting_coefs(saying, places, other, others):
    """Return a dict with the integers at the unknowns of a saying less another one, carried to where their leads meet.

    Each one is multiplied by the coef of the other one's lead: made whole that is what it is with 1 at both leads.
    """
    return summed_coefs(other[1][0][0], carry(saying[1], places), -saying[1][0][0], carry(other[1], others))
