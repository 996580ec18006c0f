"""Places without names: sayings turned by all orders, books that all orders keep, and names that a book gives."""

from itertools import permutations

from risingsays.bringing import what_is_left
from risingsays.checks import is_integer, is_tuple
from risingsays.closing import closed_by, closed_search
from risingsays.errors import BadParameter, NoRow, TooGreat
from risingsays.following import table_that_breaks
from risingsays.sayings import all_unknowns, is_order, made_whole, need_book, need_saying, turn
from risingsays.tables import broken_at, need_table, numbers_at, wrong_in_table

MOST_TURNED = 4


def turned_all(field, kinds, saying):
    """Return all unlike sayings that come of a saying by the orders of its places, whole, ascending."""
    need_saying(field, kinds, saying)
    need_narrow((saying,))
    return turned_ones(field, saying)


def exchanged(book, many, table, order):
    """Return the table in which each unknown has the number of the one with its places exchanged."""
    need_table(book, many, table)
    if not is_order(order, many):
        raise BadParameter(order)
    return exchanged_by(book, many, table, order)


def is_nameless(book):
    """Tell whether the book says all that comes of its sayings by the orders of their places."""
    need_book(book)
    need_narrow(book[2])
    return first_name(book, closed_search(book, ()).leads) is None


def any_order(book):
    """Return the closed book of all that comes of the book's sayings by the orders of their places."""
    field, kinds, sayings = need_book(book)
    need_narrow(sayings)
    found = {}
    for saying in sayings:
        for one in turned_ones(field, saying):
            found[one] = True
    return closed_by((field, kinds, tuple(list(found))), ())


def naming(book):
    """Return (NUMBER, ORDER, TABLE): the first saying and its first order that the book names, and how."""
    need_book(book)
    need_narrow(book[2])
    leads = closed_search(book, ()).leads
    found = first_name(book, leads)
    if found is None:
        raise NoRow()
    number, order = found
    saying = book[2][number]
    # The exchanged table breaks the saying exactly if the table breaks the turned one.
    return (number, order, table_that_breaks(book, leads, turn(saying, order), saying[0]))


def is_naming(book, value):
    """Tell whether a value is a number, an order and a table as `naming` tells them."""
    need_book(book)
    need_narrow(book[2])
    found = first_name(book, closed_search(book, ()).leads)
    if found is None or not is_tuple(value, 3, 3):
        return False
    number, order, table = value
    if not is_integer(number) or number != found[0]:
        return False
    saying = book[2][number]
    many = saying[0]
    if not is_order(order, many) or order != found[1]:
        return False
    if wrong_in_table(book, many, table) is not None or broken_at(book, many, table) is not None:
        return False
    return broken_at((book[0], book[1], (saying,)), many, exchanged_by(book, many, table, order)) is not None


def need_narrow(sayings):
    """Refuse sayings of more places than are turned in all ways."""
    if not all([width <= MOST_TURNED for width, _ in sayings]):
        raise TooGreat(MOST_TURNED)


def turned_ones(field, saying):
    """Return the same as `turned_all`."""
    return tuple(sorted({whole_saying(field, turn(saying, order)) for order in permutations(range(saying[0]))}))


def whole_saying(field, saying):
    """Return a saying with its terms made whole."""
    return (saying[0], made_whole(field, saying[1]))


def exchanged_by(book, many, table, order):
    """Return a table that has been checked with its places exchanged."""
    numbers = numbers_at(book, many, table)
    found = []
    for kind, places in all_unknowns(book[1], many):
        found.append(numbers[(kind, tuple(sorted([order[at] for at in places])))])
    return tuple(found)


def first_name(book, leads):
    """Return the number of the first saying and its first order by which turned it does not hold; None if all do.

    The leads are those of the book's closed list.
    """
    for number, saying in enumerate(book[2]):
        for order in permutations(range(saying[0])):
            width, terms = turn(saying, order)
            if what_is_left(book[0], leads, width, terms) != ():
                return (number, order)
    return None
