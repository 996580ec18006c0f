"""Showing that a saying holds: how its carried terms are made, and that on fewer places it does not hold."""

from math import comb

from risingsays.checks import MOST_PLACES, is_map, is_tuple, is_within, need_many
from risingsays.closing import closed_search
from risingsays.errors import BadParameter, NoRow, TooGreat
from risingsays.following import has_many_maps, is_table_that_breaks, need_both, start_of, table_that_breaks
from risingsays.making import Maker, makes, need_makeable, need_parts, search_on
from risingsays.sayings import MOST_UNKNOWNS, carry, count_unknowns, rising_maps
from risingsays.tables import MOST_MAPS


def shown(book, saying, many, places):
    """Return PARTS by which the saying, carried by the rising map, is made of the book."""
    need_map(book, saying, many, places)
    need_makeable(book, many)
    return need_parts(Maker(book, search_on(book, many)), many, carry(saying[1], places))


def is_shown(book, saying, many, places, value):
    """Tell whether a value is PARTS by which the saying, carried by the rising map, is made of the book."""
    need_map(book, saying, many, places)
    return makes(book, many, carry(saying[1], places), value)


def holding_paper(book, saying):
    """Return (MANY, SHOWN, TABLE): from where on the saying holds, that it does there, and not on one place fewer."""
    need_both(book, saying)
    many = start_of(book, saying)
    if many is None:
        raise NoRow()
    need_makeable(book, many)
    if has_many_maps(saying, many):
        raise TooGreat(MOST_MAPS)
    maker = Maker(book, search_on(book, many))
    width, terms = saying
    lists = [need_parts(maker, many, carry(terms, places)) for places in rising_maps(width, many)]
    table = None
    if many > width:
        table = table_that_breaks(book, closed_search(book, ()).leads, saying, many - 1)
    return (many, tuple(lists), table)


def is_holding_paper(book, saying, value):
    """Tell whether a value shows from where on the saying holds."""
    need_both(book, saying)
    if not is_tuple(value, 3, 3):
        return False
    many, lists, table = value
    width, terms = saying
    if not is_within(many, width, MOST_PLACES):
        return False
    if count_unknowns(book[1], many) > MOST_UNKNOWNS or has_many_maps(saying, many):
        return False
    count = comb(many, width)
    if not is_tuple(lists, count, count):
        return False
    for places, parts in zip(rising_maps(width, many), lists):
        if not makes(book, many, carry(terms, places), parts):
            return False
    if many == width:
        return table is None
    return is_table_that_breaks(book, saying, many - 1, table)


def need_map(book, saying, many, places):
    """Refuse wrong parameters: a book, a saying, a number of places, a rising map of the saying's places."""
    need_both(book, saying)
    need_many(many)
    if not is_map(places, saying[0], many):
        raise BadParameter(places)
