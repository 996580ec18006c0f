"""Tables: a number for each unknown, what terms come to in them, and which sayings they keep."""

from math import comb, lcm

from risingsays.checks import is_tuple, need_many, need_rising
from risingsays.errors import BadTable, NoRow, TooGreat
from risingsays.numbers import NOUGHT, is_number, need_number, product_of, sum_of
from risingsays.sayings import all_unknowns, count_unknowns, need_book, need_few_unknowns, need_terms, rising_maps

MOST_MAPS = 5000


def need_table(book, many, table):
    """Return a table of the book on so many places, refuse anything else."""
    need_room(book, many)
    need_numbers(book, many, table)
    return table


def worth(book, many, table, terms):
    """Return the number to which the terms come in the table."""
    need_table(book, many, table)
    field, kinds, _ = book
    need_terms(field, kinds, many, terms)
    return worth_with(field, numbers_at(book, many, table), terms)


def first_broken(book, many, table):
    """Return the first saying that the table breaks, with the least rising map at which it does."""
    need_table(book, many, table)
    need_few_maps(book, many)
    found = broken_at(book, many, table)
    if found is None:
        raise NoRow()
    return found


def keeps(book, many, table):
    """Tell whether the table keeps the book."""
    need_table(book, many, table)
    need_few_maps(book, many)
    return broken_at(book, many, table) is None


def nought_table(book, many):
    """Return the table of noughts."""
    need_room(book, many)
    return (NOUGHT,) * count_unknowns(book[1], many)


def table_sum(book, many, table, other, factor):
    """Return the sum of a table and of factor times another one."""
    need_table(book, many, table)
    need_numbers(book, many, other)
    field = book[0]
    need_number(field, factor)
    return tuple([sum_of(field, one, product_of(field, factor, more)) for one, more in zip(table, other)])


def table_part(book, many, table, places):
    """Return the part of a table on some of its places."""
    need_table(book, many, table)
    need_rising(places, many)
    numbers = numbers_at(book, many, table)
    part = all_unknowns(book[1], len(places))
    return tuple([numbers[(kind, tuple([places[at] for at in spots]))] for kind, spots in part])


def need_room(book, many):
    """Refuse what is no book, no number of places, and more unknowns there than a table may have."""
    need_book(book)
    need_many(many)
    need_few_unknowns(book[1], many)


def need_numbers(book, many, table):
    """Refuse what has not a number of the book's field for each unknown."""
    place = wrong_in_table(book, many, table)
    if place is not None:
        raise BadTable(place)


def wrong_in_table(book, many, table):
    """Return the place at which a value is no table of a checked book, None if it is."""
    return wrong_in_numbers(book[0], count_unknowns(book[1], many), table)


def wrong_in_numbers(field, count, numbers):
    """Return the place at which a value is no tuple of so many NUMBERS, None if it is."""
    if not is_tuple(numbers, count, count):
        return ()
    for at, number in enumerate(numbers):
        if not is_number(field, number):
            return (at,)
    return None


def need_few_maps(book, many):
    """Refuse a saying with more rising maps into so many places than are gone through."""
    for width, _ in book[2]:
        if comb(many, width) > MOST_MAPS:
            raise TooGreat(MOST_MAPS)


def numbers_at(book, many, table):
    """Return a dict with the number of each unknown in a table that has been checked."""
    return {unknown: number for unknown, number in zip(all_unknowns(book[1], many), table)}


def worth_with(field, numbers, terms):
    """Return the number to which terms that have been checked come with these numbers at their unknowns."""
    total = NOUGHT
    for coef, kind, places in terms:
        total = sum_of(field, total, product_of(field, (coef, 1), numbers[(kind, places)]))
    return total


def integers_at(book, many, table):
    """Return a dict with an integer for each unknown: its number times one integer that is the same for all."""
    # Whether a sum comes to nought is as well seen with whole numbers, and much faster.
    common = 1
    for number in table:
        common = lcm(common, number[1])
    numbers = numbers_at(book, many, table)
    return {unknown: above * (common // below) for unknown, (above, below) in numbers.items()}


def broken_at(book, many, table):
    """Return the first saying and its least rising map at which a table breaks it, None if it keeps the book."""
    field, _, sayings = book
    integers = integers_at(book, many, table)
    for at, (width, terms) in enumerate(sayings):
        for places in rising_maps(width, many):
            total = sum_at(integers, terms, places)
            if field:
                total = total % field
            if total != 0:
                return (at, places)
    return None


def sum_at(integers, terms, places):
    """Return the sum to which terms, carried by the rising map, come with these integers."""
    total = 0
    for coef, kind, spots in terms:
        total += coef * integers[(kind, tuple([places[at] for at in spots]))]
    return total
