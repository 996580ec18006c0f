"""Kinds that are not seen: what holds of the others alone, and whole tables for theirs."""

from risingsays.bringing import lead_kind
from risingsays.checks import need_rising
from risingsays.closing import closed_search
from risingsays.errors import BadParameter, NoRow
from risingsays.free import told_table
from risingsays.sayings import all_unknowns, need_book, need_few_sayings, need_few_unknowns
from risingsays.tables import need_numbers, need_room, numbers_at, wrong_in_table


def seen_book(book, hidden):
    """Return the book of the seen kinds with the closed list of all that holds of them alone."""
    need_book(book)
    need_hidden(book[1], hidden)
    return left_of_seen(book, hidden)


def comes_from(book, hidden, many, table):
    """Return a table that keeps the book and has the numbers of the table at the seen unknowns."""
    need_seen_table(book, hidden, many, table)
    need_few_unknowns(book[1], many)
    leads = closed_search(book, hidden).leads
    found = told_table(book, leads, many, seen_numbers(book, hidden, many, table))
    # Seen unknowns that are not free have the numbers that the free ones tell, whatever the table says.
    if part_of(book, hidden, many, found) != table:
        raise NoRow()
    return found


def is_come_from(book, hidden, many, table, value):
    """Tell whether a value is a table that keeps the book and has the numbers of the table at the seen unknowns."""
    need_seen_table(book, hidden, many, table)
    need_few_unknowns(book[1], many)
    if wrong_in_table(book, many, value) is not None or part_of(book, hidden, many, value) != table:
        return False
    leads = closed_search(book, hidden).leads
    return told_table(book, leads, many, numbers_at(book, many, value)) == value


def seen_part(book, hidden, many, table):
    """Return the part of a table that has the seen unknowns, as a table of the seen kinds."""
    need_book(book)
    need_hidden(book[1], hidden)
    need_room(book, many)
    need_numbers(book, many, table)
    return part_of(book, hidden, many, table)


def need_hidden(kinds, hidden):
    """Refuse what is no SET of numbers of kinds, and what is all of them."""
    need_rising(hidden, len(kinds))
    if len(hidden) == len(kinds):
        raise BadParameter(hidden)


def need_seen_table(book, hidden, many, table):
    """Refuse wrong parameters: a book, hidden kinds, a number of places, a table of the seen kinds there."""
    field, kinds, _ = need_book(book)
    need_hidden(kinds, hidden)
    seen = (field, kinds_of(kinds, seen_kinds(kinds, hidden)), ())
    need_room(seen, many)
    need_numbers(seen, many, table)


def left_of_seen(book, hidden):
    """Return the same as `seen_book`; the book may have more kinds and sayings than may be handed in."""
    field, kinds, _ = book
    search = closed_search(book, hidden)
    # Hidden unknowns are greater: what has a seen one for its lead has seen ones alone.
    left = [saying for saying, _ in search.members if lead_kind(saying) not in hidden]
    need_few_sayings(left)
    seen = seen_kinds(kinds, hidden)
    return (field, kinds_of(kinds, seen), tuple([(width, renumbered(seen, terms)) for width, terms in left]))


def seen_kinds(kinds, hidden):
    """Return the numbers of the kinds that are seen, ascending."""
    return [kind for kind in range(len(kinds)) if kind not in hidden]


def kinds_of(kinds, seen):
    """Return the arities of the seen kinds."""
    return tuple([kinds[kind] for kind in seen])


def renumbered(seen, terms):
    """Return terms of seen unknowns by the numbers that the seen kinds have among themselves."""
    return tuple([(coef, seen.index(kind), places) for coef, kind, places in terms])


def seen_unknowns(book, hidden, many):
    """Return the unknowns of the seen kinds by their numbers in the book, in their order."""
    return [unknown for unknown in all_unknowns(book[1], many) if unknown[0] not in hidden]


def seen_numbers(book, hidden, many, table):
    """Return a dict with the numbers of a table of the seen kinds at the unknowns of the book."""
    return {unknown: number for unknown, number in zip(seen_unknowns(book, hidden, many), table)}


def part_of(book, hidden, many, table):
    """Return the numbers of a table of the book at the seen unknowns."""
    numbers = numbers_at(book, many, table)
    return tuple([numbers[unknown] for unknown in seen_unknowns(book, hidden, many)])
