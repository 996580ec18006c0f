"""Tables told further: by what a table is stuck, a table to which it goes on, and the judge of this."""

from risingsays.bringing import leads_of
from risingsays.checks import MOST_PLACES
from risingsays.closing import closed_by
from risingsays.errors import BadParameter, NoRow
from risingsays.free import told_table
from risingsays.going import gone, need_more
from risingsays.sayings import need_few_unknowns
from risingsays.tables import broken_at, need_few_maps, need_table, numbers_at, wrong_in_table


def stuck(book, many, table, more):
    """Return the first member of `going` that the table breaks, with the least rising map; None if it goes on."""
    need_table(book, many, table)
    need_more(more)
    return stuck_at(closed_by(book, ()), many, table, more)


def gone_on(book, many, table, more):
    """Return a table on so many places more that keeps the book and to which the table goes on."""
    need_room_behind(book, many, table, more)
    closed = closed_by(book, ())
    if stuck_at(closed, many, table, more) is not None:
        raise NoRow()
    # What the table has for unknowns that aren't free is told by its lesser ones, as it is not stuck.
    return told_table(book, leads_of(closed[2]), many + more, numbers_at(book, many, table))


def is_gone_on(book, many, table, more, value):
    """Tell whether a value is a table on so many places more that keeps the book and to which the table goes on."""
    need_room_behind(book, many, table, more)
    need_few_maps(book, many + more)
    if wrong_in_table(book, many + more, value) is not None:
        return False
    # The unknowns on the first places are the first ones.
    return value[:len(table)] == table and broken_at(book, many + more, value) is None


def need_room_behind(book, many, table, more):
    """Refuse wrong parameters, and more places or unknowns in all than there may be."""
    need_table(book, many, table)
    need_more(more)
    if many + more > MOST_PLACES:
        raise BadParameter(more)
    need_few_unknowns(book[1], many + more)


def stuck_at(closed, many, table, more):
    """Return where the table breaks what so many places more make of a closed book, None if it doesn't."""
    asked = gone(closed, more)
    need_few_maps(asked, many)
    return broken_at(asked, many, table)
