"""From where on a saying holds in a book, and tables that break it where it doesn't."""

from math import comb

from risingsays.bringing import worked_on
from risingsays.checks import need_many
from risingsays.closing import closed_search
from risingsays.errors import NoRow, TooGreat
from risingsays.formulas import equal_from
from risingsays.free import formula_of_free, told_table
from risingsays.making import search_on
from risingsays.numbers import ONE
from risingsays.sayings import carry, need_book, need_few_sayings, need_few_unknowns, need_saying, rising_maps
from risingsays.tables import MOST_MAPS, broken_at, numbers_at, wrong_in_table


def holds_at(book, saying, many):
    """Tell whether the saying holds in the book on so many places."""
    need_both(book, saying)
    need_many(many)
    return holds(saying, start_of(book, saying), many)


def holds_from(book, saying):
    """Return the least number of places from the saying's WIDTH on on which it holds, None if there is none."""
    need_both(book, saying)
    return start_of(book, saying)


def breaking(book, saying, many):
    """Return a table on so many places that keeps the book and not the saying."""
    need_breakable(book, saying, many)
    if holds(saying, start_of(book, saying), many):
        raise NoRow()
    return table_that_breaks(book, closed_search(book, ()).leads, saying, many)


def is_breaking(book, saying, many, value):
    """Tell whether a value is a table on so many places that keeps the book and not the saying."""
    need_breakable(book, saying, many)
    return is_table_that_breaks(book, saying, many, value)


def need_both(book, saying):
    """Refuse what is no book, and what is no saying of its field and kinds."""
    need_book(book)
    need_saying(book[0], book[1], saying)


def need_breakable(book, saying, many):
    """Refuse wrong parameters, and too many unknowns or rising maps of the saying."""
    need_both(book, saying)
    need_many(many)
    need_few_unknowns(book[1], many)
    if has_many_maps(saying, many):
        raise TooGreat(MOST_MAPS)


def has_many_maps(saying, many):
    """Tell whether there are more rising maps of the saying's places into so many than are gone through."""
    return comb(many, saying[0]) > MOST_MAPS


def start_of(book, saying):
    """Return the least number of places from the saying's WIDTH on on which it holds, None if there is none."""
    field, kinds, sayings = book
    longer = (field, kinds, sayings + (saying,))
    need_few_sayings(longer[2])
    formulas = []
    for one in (book, longer):
        search = closed_search(one, ())
        need_few_sayings(search.members)
        formulas.append(formula_of_free(kinds, search))
    return start_by(saying, formulas[0], formulas[1])


def start_by(saying, free, freed):
    """Return from where on a saying holds, None if from nowhere on.

    `free` is the formula of the free unknowns of the book, `freed` that of the book with the saying.
    """
    start = equal_from(free, freed)
    if start is None:
        return None
    # On fewer places the saying says nothing, so that as many unknowns are free there as without it.
    return max(start, saying[0])


def holds(saying, start, many):
    """Tell whether a saying that holds from the start on holds on so many places."""
    return many < saying[0] or (start is not None and start <= many)


def table_that_breaks(book, leads, saying, many):
    """Return a table that keeps the book, whose closed list has these leads, and not the saying, which doesn't hold."""
    for places in rising_maps(saying[0], many):
        left, _ = worked_on(book[0], leads, many, carry(saying[1], places))
        if len(left) > 0:
            # What is left is of free unknowns: with 1 at one of them and 0 at the others it doesn't come to 0.
            return told_table(book, leads, many, {list(left)[0]: ONE})
    raise NoRow()


def is_table_that_breaks(book, saying, many, value):
    """Tell whether a value is a table that keeps the book and not the saying."""
    if wrong_in_table(book, many, value) is not None or not keeps_all(book, many, value):
        return False
    return broken_at((book[0], book[1], (saying,)), many, value) is not None


def keeps_all(book, many, table):
    """Tell whether a table keeps the book, however many rising maps there are."""
    # What is MADE on so many places is told by one lead for each unknown that isn't free.
    leads = search_on(book, many).leads
    return told_table(book, leads, many, numbers_at(book, many, table)) == table
