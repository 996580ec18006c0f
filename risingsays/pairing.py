"""Two books beside each other: where the same tables keep both, where they part, what both and what either says."""

from risingsays.bringing import what_is_left
from risingsays.checks import is_integer, is_tuple, need_many
from risingsays.closing import closed_by, closed_search
from risingsays.errors import BadParameter, NoRow
from risingsays.following import holds, start_by, table_that_breaks
from risingsays.free import formula_of_free
from risingsays.hiding import left_of_seen
from risingsays.sayings import in_order, need_book
from risingsays.tables import broken_at, wrong_in_table


def follows_all(book, other, many):
    """Tell whether all tables on so many places that keep the book keep the other one."""
    need_pair(book, other)
    need_many(many)
    return all_hold(late_starts(book, closed_search(book, ()), other), many)


def alike_at(book, other, many):
    """Tell whether the same tables on so many places keep both books."""
    need_pair(book, other)
    need_many(many)
    return all_hold(starts_of_both(book, other), many)


def alike_from(book, other):
    """Return the least number from which on the same tables keep both books, None if there is none."""
    need_pair(book, other)
    starts = [start for _, start in starts_of_both(book, other)]
    if None in starts:
        return None
    return max([0] + starts)


def parting(book, other):
    """Return (MANY, WHICH, TABLE): the least number of places at which they part, and a table that one alone keeps."""
    need_pair(book, other)
    books = (book, other)
    searches = (closed_search(book, ()), closed_search(other, ()))
    found = first_parting(books, searches)
    if found is None:
        raise NoRow()
    many, which, at = found
    leads = searches[which].leads
    return (many, which, table_that_breaks(books[which], leads, books[1 - which][2][at], many))


def is_parting(book, other, value):
    """Tell whether a value is the least number of places, which book, and a table as `parting` tells them."""
    need_pair(book, other)
    books = (book, other)
    found = first_parting(books, (closed_search(book, ()), closed_search(other, ())))
    if found is None or not is_tuple(value, 3, 3):
        return False
    many, which, table = value
    if not is_integer(many) or not is_integer(which) or (many, which) != found[:2]:
        return False
    if wrong_in_table(book, many, table) is not None or broken_at(books[which], many, table) is not None:
        return False
    return broken_at(books[1 - which], many, table) is not None


def both(book, other):
    """Return the closed book of what both books say together."""
    need_pair(book, other)
    field, kinds, sayings = book
    return closed_by((field, kinds, sayings + other[2]), ())


def either(book, other):
    """Return the closed book of what holds in each of both books."""
    need_pair(book, other)
    field, kinds, sayings = book
    count = len(kinds)
    told = [(width, in_order(terms + copied(count, terms))) for width, terms in sayings]
    told.extend([(width, copied(count, terms)) for width, terms in other[2]])
    # Where the copies come to nothing, what is made of the one book is the negative of what is made of the other.
    return left_of_seen((field, kinds + kinds, tuple(told)), tuple(range(count, 2 * count)))


def need_pair(book, other):
    """Refuse what is no book, and what is no other book of its field and kinds."""
    need_book(book)
    need_book(other)
    if other[0] != book[0] or other[1] != book[1]:
        raise BadParameter(other)


def late_numbers(search, other):
    """Return the numbers of the other book's sayings that don't hold on as many places as they have.

    The search is that of the closed list of the book in which they are to hold.
    """
    found = []
    for at, (width, terms) in enumerate(other[2]):
        if what_is_left(search.field, search.leads, width, terms) != ():
            found.append(at)
    return found


def late_starts(book, search, other):
    """Return for each of these sayings a pair of it and of the number from which on it holds, None for nowhere."""
    field, kinds, _ = book
    free = formula_of_free(kinds, search)
    # The members say what the book says, and with them the search has the less to do.
    members = search.told()
    found = []
    for at in late_numbers(search, other):
        saying = other[2][at]
        longer = closed_search((field, kinds, members + (saying,)), ())
        found.append((saying, start_by(saying, free, formula_of_free(kinds, longer))))
    return found


def starts_of_both(book, other):
    """Return the same of both books, the sayings of each one in the other one."""
    search = closed_search(book, ())
    other_search = closed_search(other, ())
    return late_starts(book, search, other) + late_starts(other, other_search, book)


def all_hold(starts, many):
    """Tell whether all sayings of such pairs hold on so many places."""
    return all([holds(saying, start, many) for saying, start in starts])


def first_parting(books, searches):
    """Return (MANY, WHICH, AT): the least WIDTH of a saying that doesn't hold in the other book on so many places.

    AT is its number in that one of both books which is not WHICH; None if all sayings hold.
    """
    found = []
    for which in range(2):
        other = books[1 - which]
        for at in late_numbers(searches[which], other):
            found.append((other[2][at][0], which, at))
    if len(found) == 0:
        return None
    return min(found)


def copied(count, terms):
    """Return terms of so many kinds, said of the kinds' copies."""
    return tuple([(coef, kind + count, places) for coef, kind, places in terms])
