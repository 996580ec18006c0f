"""What is MADE of a book: how terms are made of its carried sayings, and the judge of this."""

from math import comb

from risingsays.bringing import worked_on
from risingsays.checks import MOST_PLACES, is_map, is_tuple, is_within
from risingsays.closing import searched
from risingsays.errors import NoRow, TooGreat
from risingsays.numbers import NOUGHT, ONE, is_number, negative, product_of, sum_of
from risingsays.sayings import carry, need_book, need_few_unknowns, need_terms

MOST_PARTS = 2000


def made_of(book, many, terms):
    """Return PARTS by which the terms are made of the book on so many places."""
    need_book(book)
    need_terms(book[0], book[1], many, terms)
    need_makeable(book, many)
    return need_parts(Maker(book, search_on(book, many)), many, terms)


def is_made_of(book, many, terms, value):
    """Tell whether a value is PARTS by which the terms are made of the book on so many places."""
    need_book(book)
    need_terms(book[0], book[1], many, terms)
    return makes(book, many, terms, value)


def need_makeable(book, many):
    """Refuse more unknowns, or more carried sayings, on so many places than are gone through."""
    need_few_unknowns(book[1], many)
    if sum([comb(many, width) for width, _ in book[2]]) > MOST_PARTS:
        raise TooGreat(MOST_PARTS)


def need_parts(maker, many, terms):
    """Return PARTS by which the terms are made, refuse terms that are not."""
    parts = maker.parts_of_terms(many, terms)
    if parts is None:
        raise NoRow()
    return parts


def search_on(book, many):
    """Return a search by whose members just what is MADE on so many places is brought to nothing there."""
    return searched(book, (), MOST_PLACES, many)


class Maker:
    """How what a search has found is made of the sayings of its book."""

    def __init__(self, book, search):
        self.field = book[0]
        self.search = search
        # For a row a dict with the number of each carried saying (I, PLACES) that it is made of.
        self.made = {row: {(row, tuple(range(width))): ONE} for row, (width, _) in enumerate(book[2])}

    def parts_of_terms(self, many, terms):
        """Return PARTS by which the terms are made on so many places, None if they are not brought to nothing."""
        left, taken = worked_on(self.field, self.search.leads, many, terms)
        if len(left) > 0:
            return None
        # What was added came to the terms' negative.
        return self.parts_of_recipe([(negative(self.field, number), row, places) for number, row, places in taken])

    def parts_of_recipe(self, recipe):
        """Return PARTS of what is made so of rows."""
        self.make_rows(rows_in(recipe))
        numbers = self.summed(recipe)
        return tuple([(numbers[part], part[0], part[1]) for part in sorted(numbers) if numbers[part] != NOUGHT])

    def make_rows(self, rows):
        """Find how the rows are made, those that they are made of ahead of them."""
        wanted = {row: True for row in rows if row not in self.made}
        if len(wanted) == 0:
            return
        for row in range(max(rows), -1, -1):
            if row in wanted:
                for other in rows_in(self.search.recipes[row]):
                    if other not in self.made:
                        wanted[other] = True
        for row in sorted(wanted):
            self.made[row] = self.summed(self.search.recipes[row])

    def summed(self, recipe):
        """Return a dict with the numbers of the carried sayings that come together in a recipe."""
        numbers = {}
        for factor, row, places in recipe:
            for (at, spots), number in self.made[row].items():
                part = (at, tuple([places[spot] for spot in spots]))
                more = product_of(self.field, factor, number)
                numbers[part] = sum_of(self.field, numbers.get(part, NOUGHT), more)
        return numbers


def rows_in(recipe):
    """Return the rows that something is made of."""
    return [row for number, row, places in recipe]


def is_parts(book, many, value):
    """Tell whether a value is PARTS: numbers, the book's sayings and rising maps into so many places."""
    if not is_tuple(value, 0, MOST_PARTS):
        return False
    return all([is_part(book, many, part) for part in value])


def is_part(book, many, value):
    """Tell whether a value is a triple as PARTS have."""
    field, _, sayings = book
    if not is_tuple(value, 3, 3):
        return False
    number, at, places = value
    if not is_number(field, number) or not is_within(at, 0, len(sayings) - 1):
        return False
    return is_map(places, sayings[at][0], many)


def makes(book, many, terms, value):
    """Tell whether a value is PARTS whose sum is the terms."""
    if not is_parts(book, many, value):
        return False
    field, _, sayings = book
    numbers = {(kind, places): negative(field, (coef, 1)) for coef, kind, places in terms}
    for factor, at, places in value:
        for coef, kind, spots in carry(sayings[at][1], places):
            unknown = (kind, spots)
            more = product_of(field, factor, (coef, 1))
            numbers[unknown] = sum_of(field, numbers.get(unknown, NOUGHT), more)
    return all([number == NOUGHT for number in numbers.values()])
