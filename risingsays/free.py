"""What is free: the leads of a closed list, the unknowns that may be given any numbers, the tables made of these."""

from risingsays.bringing import lead_gaps, lead_kind
from risingsays.closing import closed_search
from risingsays.errors import BadTable
from risingsays.formulas import COEFS, formula_minus, formula_of, formula_plus
from risingsays.numbers import NOUGHT, ONE, negative, product_of, quotient_of, sum_of
from risingsays.sayings import all_unknowns, need_book, rank_with
from risingsays.tables import need_room, wrong_in_numbers


def lead_rows(book):
    """Return for each kind the gaps of the leads of members of the closed list that are of this kind."""
    need_book(book)
    return rows_of(book[1], closed_search(book, ()))


def free_at(book, many):
    """Return the free unknowns on so many places, the least one first."""
    need_room(book, many)
    return free_unknowns(book, closed_search(book, ()).leads, many)


def free_formula(book):
    """Return the formula by which there are free unknowns on each number of places."""
    need_book(book)
    return formula_of_free(book[1], closed_search(book, ()))


def solved(book, many, numbers):
    """Return the one table that keeps the book and has these numbers at the free unknowns."""
    need_room(book, many)
    leads = closed_search(book, ()).leads
    free = free_unknowns(book, leads, many)
    place = wrong_in_numbers(book[0], len(free), numbers)
    if place is not None:
        raise BadTable(place)
    return told_table(book, leads, many, {unknown: number for unknown, number in zip(free, numbers)})


def basis(book, many):
    """Return for each free unknown the table that keeps the book, with 1 there and 0 at the other free ones."""
    need_room(book, many)
    leads = closed_search(book, ()).leads
    return tuple(told_tables(book, leads, many, [{unknown: ONE} for unknown in free_unknowns(book, leads, many)]))


def rows_of(kinds, search):
    """Return for each kind the gaps of the leads of the search's members that are of this kind, ascending."""
    found = [[] for _ in kinds]
    for saying, _ in search.members:
        found[lead_kind(saying)].append(lead_gaps(saying))
    return tuple([tuple(sorted(rows)) for rows in found])


def formula_of_free(kinds, search):
    """Return the formula by which the leads of the search's members leave unknowns free."""
    total = ((), (0,) * COEFS)
    for arity, rows in zip(kinds, rows_of(kinds, search)):
        every = ((), tuple([1 if at == arity else 0 for at in range(COEFS)]))
        total = formula_plus(total, formula_minus(every, formula_of(rows, arity)))
    return total


def free_unknowns(book, leads, many):
    """Return the unknowns that no lead reaches, the least one first."""
    return tuple([unknown for unknown in all_unknowns(book[1], many) if leads.reaching(many, unknown) is None])


def told_table(book, leads, many, given):
    """Return the one table that the numbers at the free unknowns tell.

    The leads are those of a closed list; free unknowns that are given none have (0, 1), and what is given for an
    unknown that is not free does not count.
    """
    return told_tables(book, leads, many, [given])[0]


def told_tables(book, leads, many, lots):
    """Return for each lot of numbers at the free unknowns the one table that they tell."""
    field, kinds, _ = book
    there = all_unknowns(kinds, many)
    # Each unknown with the terms of which it is the lead, None if it is free, the least one first.
    order = []
    for kind, places in sorted(there, key=lambda unknown: rank_with(leads.ahead, unknown[0], unknown[1])):
        found = leads.reaching(many, (kind, places))
        order.append(((kind, places), None if found is None else found[2]))
    tables = []
    for given in lots:
        numbers = told_numbers(field, order, given)
        tables.append(tuple([numbers[one] for one in there]))
    return tables


def told_numbers(field, order, given):
    """Return a dict with the number of each unknown, those of the free ones being given."""
    numbers = {}
    for unknown, terms in order:
        if terms is None:
            numbers[unknown] = given.get(unknown, NOUGHT)
        else:
            numbers[unknown] = lead_number(field, numbers, terms)
    return numbers


def lead_number(field, numbers, terms):
    """Return the number that the lead of the terms has where they come to nought, all lesser numbers being known."""
    total = NOUGHT
    for coef, kind, places in terms[1:]:
        number = numbers[(kind, places)]
        if number != NOUGHT:
            total = sum_of(field, total, product_of(field, number, (coef, 1)))
    return quotient_of(field, negative(field, total), (terms[0][0], 1))
