"""Books as few as can be: what comes new with each number of places, least books, sayings that are needless."""

from risingsays.bringing import Leads, all_but, what_is_left, whole_of_numbers, worked_on
from risingsays.checks import is_rising
from risingsays.errors import BadParameter
from risingsays.sayings import MOST_WIDTH, carry, need_book, term_rank


def new_by_width(book):
    """Return for each number of places up to six how many leads come new there."""
    need_book(book)
    return tuple([len(level.new_rows()) for level in levels_of(book)])


def least_book(book):
    """Return the book that says the same and has, for each lead that comes new, the one saying with it."""
    field, kinds, _ = need_book(book)
    told = []
    for level in levels_of(book):
        told.extend([(level.many, terms) for terms in sorted(level.new_rows(), key=lead_rank)])
    return (field, kinds, tuple(told))


def is_least(book):
    """Tell whether no book that says the same has fewer sayings."""
    return sum(new_by_width(book)) == len(book[2])


def needless(book):
    """Return the numbers of the sayings that are left out, from the first one on, as the others make them."""
    need_book(book)
    found = []
    for level in levels_of(book):
        found.extend(level.needless)
    return tuple(sorted(found))


def without(book, lot):
    """Return the book without the sayings with these numbers."""
    field, kinds, sayings = need_book(book)
    if not is_rising(lot, len(sayings)):
        raise BadParameter(lot)
    return (field, kinds, tuple([saying for at, saying in enumerate(sayings) if at not in lot]))


class Level:
    """What is MADE of a book on so many places: rows of terms with unlike leads, first those that come from below."""

    def __init__(self, field, many):
        self.field = field
        self.many = many
        self.leads = Leads(())
        self.rows = []
        self.from_below = 0
        # The numbers of the book's sayings of so many places that the others make.
        self.needless = []

    def take_in(self, terms):
        """Take in what is MADE; tell whether it is no sum of what was taken in before."""
        left = what_is_left(self.field, self.leads, self.many, terms)
        if left == ():
            return False
        self.leads.take_in(len(self.rows), (self.many, left))
        self.rows.append(left)
        return True

    def take_from_below(self, rows):
        """Take in what comes of the rows on one place fewer."""
        for terms in rows:
            for place in range(self.many):
                self.take_in(carry(terms, all_but(place, self.many)))
        self.from_below = len(self.rows)

    def take_sayings(self, sayings):
        """Take in the book's sayings of so many places, the last one first."""
        # A saying is made of those that stay exactly if it is made of what is below and of the later ones.
        for at in range(len(sayings) - 1, -1, -1):
            width, terms = sayings[at]
            if width == self.many and not self.take_in(terms):
                self.needless.append(at)

    def finish(self):
        """Bring down all terms of the rows but their leads."""
        self.rows = [self.finished(terms) for terms in self.rows]

    def finished(self, terms):
        """Return a row with all terms but the lead's brought down by the others."""
        coef, kind, places = terms[0]
        left, _ = worked_on(self.field, self.leads, self.many, terms[1:])
        left[(kind, places)] = (coef, 1)
        return whole_of_numbers(self.field, left, ())

    def new_rows(self):
        """Return the rows whose leads are not those of what comes from below."""
        return self.rows[self.from_below:]


def levels_of(book):
    """Return what is MADE of a checked book on each number of places up to six."""
    field, _, sayings = book
    found = []
    rows = []
    for many in range(MOST_WIDTH + 1):
        level = Level(field, many)
        level.take_from_below(rows)
        level.take_sayings(sayings)
        level.finish()
        rows = level.rows
        found.append(level)
    return found


def lead_rank(terms):
    """Return the rank of the lead of terms."""
    return term_rank(terms[0])
