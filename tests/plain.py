"""The document's words done over again, slowly and plainly, to be compared with the program."""

import random
from fractions import Fraction
from functools import cmp_to_key
from itertools import combinations
from math import gcd

KINDS_LOTS = ((0,), (1,), (2,), (3,), (1, 2), (2, 2), (0, 1), (0, 3), (3, 1, 0), (1, 1, 2), (0, 1, 2, 3),
              (0, 0, 1, 1, 2, 2, 3, 3))


def dice(seed):
    return random.Random(seed)


def compare_unknowns(one, other):
    """Below 0 if the first unknown is the lesser one, above 0 if it is the greater one."""
    unlike = set(one[1]) ^ set(other[1])
    if unlike:
        return 1 if max(unlike) in one[1] else -1
    return one[0] - other[0]


UNKNOWN_KEY = cmp_to_key(compare_unknowns)


def unknowns(kinds, many):
    found = [(kind, places) for kind in range(len(kinds)) for places in combinations(range(many), kinds[kind])]
    return tuple(sorted(found, key=UNKNOWN_KEY))


def value_in(field, number):
    """A fraction as a number of the field, whose fractions have no multiple of the prime below."""
    number = Fraction(number)
    if field:
        return Fraction(number.numerator * pow(number.denominator, -1, field) % field)
    return number


def number(fraction):
    """The NUMBER that is a fraction; modulo primes they are integers."""
    return (fraction.numerator, fraction.denominator)


def row_of(terms):
    return {(kind, places): Fraction(coef) for coef, kind, places in terms}


def carry_row(row, places):
    return {(kind, tuple(places[at] for at in spots)): coef for (kind, spots), coef in row.items()}


def add_rows(field, one, other, factor):
    out = dict(one)
    for unknown, coef in other.items():
        out[unknown] = value_in(field, out.get(unknown, 0) + factor * coef)
    return {unknown: coef for unknown, coef in out.items() if coef != 0}


def terms_of(row):
    """TERMS of a row of integers."""
    ordered = sorted(row, key=UNKNOWN_KEY, reverse=True)
    return tuple((int(row[unknown]), unknown[0], unknown[1]) for unknown in ordered)


def whole_terms(field, row):
    if not row:
        return ()
    lead = max(row, key=UNKNOWN_KEY)
    monic = {unknown: value_in(field, coef / row[lead]) if not field
             else value_in(field, coef * pow(int(row[lead]), -1, field)) for unknown, coef in row.items()}
    if field:
        return terms_of(monic)
    below = 1
    for coef in monic.values():
        below = below * coef.denominator // gcd(below, coef.denominator)
    whole = {unknown: int(coef * below) for unknown, coef in monic.items()}
    common = 0
    for coef in whole.values():
        common = gcd(common, coef)
    return terms_of({unknown: coef // common for unknown, coef in whole.items()})


def some_coef(field, rnd, most=4):
    if field:
        return rnd.randint(1, field - 1)
    return rnd.choice([n for n in range(-most, most + 1) if n])


def some_terms(field, kinds, many, rnd, most=4, coef=4):
    there = unknowns(kinds, many)
    size = min(len(there), rnd.randint(0, most))
    return terms_of({unknown: some_coef(field, rnd, coef) for unknown in rnd.sample(there, size)})


def some_saying(field, kinds, rnd, widths=(1, 2, 3), most=3):
    width = rnd.choice([width for width in widths if width >= min(kinds)])
    terms = ()
    while not terms:
        terms = some_terms(field, kinds, width, rnd, most)
    return (width, terms)


def some_book(field, kinds, rnd, size, widths=(1, 2, 3), most=3):
    return (field, kinds, tuple(some_saying(field, kinds, rnd, widths, most) for _ in range(size)))


def key_with(ahead):
    """The order in which the unknowns of the kinds ahead are greater than all others."""
    return lambda unknown: (unknown[0] in ahead, UNKNOWN_KEY(unknown))


def reduce_row(field, pivots, row, key=UNKNOWN_KEY):
    """What is left of a row behind elimination by rows whose leads are unlike, the greatest unknowns first."""
    row = dict(row)
    while True:
        there = [unknown for unknown in row if unknown in pivots]
        if not there:
            return row
        unknown = max(there, key=key)
        row = add_rows(field, row, pivots[unknown], -row[unknown])


def inverted(field, number):
    return Fraction(pow(int(number), -1, field)) if field else 1 / number


def pivots_of(field, rows, key=UNKNOWN_KEY):
    """Monic rows with unlike leads, whose sums are just those of the rows."""
    pivots = {}
    for row in rows:
        row = reduce_row(field, pivots, row, key)
        if row:
            lead = max(row, key=key)
            factor = inverted(field, row[lead])
            pivots[lead] = {unknown: value_in(field, coef * factor) for unknown, coef in row.items()}
    return pivots


def carried_rows(book, many):
    """All carried sayings on so many places."""
    return [carry_row(row_of(terms), places) for width, terms in book[2]
            for places in combinations(range(many), width)]


def made_pivots(book, many, key=UNKNOWN_KEY):
    """Monic rows with unlike leads, whose sums are just what is MADE of the book on so many places."""
    return pivots_of(book[0], carried_rows(book, many), key)


def finished_terms(field, pivots, lead, key=UNKNOWN_KEY):
    """The whole terms with this lead in which no other unknown is a lead of the rows."""
    others = {unknown: row for unknown, row in pivots.items() if unknown != lead}
    return whole_terms(field, reduce_row(field, others, pivots[lead], key))


def new_leads(field, pivots, many, older, key=UNKNOWN_KEY):
    """Members of just so many places, as the document tells; `older` are the leads of fewer places."""
    return [(lead, (many, finished_terms(field, pivots, lead, key))) for lead in sorted(pivots, key=key)
            if not is_reached(older, many, lead)]


def is_reached(leads, many, unknown):
    """Whether one of the leads (MANY, UNKNOWN) can be carried to an unknown on so many places."""
    return any(kind == unknown[0] and can_be_carried(width, places, many, unknown[1])
               for width, (kind, places) in leads)


def closed_list(book, most=6, ahead=()):
    """Members with at most so many places, and their leads, found by elimination on each number of places."""
    key = key_with(ahead)
    return members_of(book[0], lambda many: made_pivots(book, many, key), most, key)


def members_of(field, pivots_on, most=6, key=UNKNOWN_KEY):
    """The same, where `pivots_on` tells for each number of places the rows that are taken for what is MADE."""
    leads = []
    members = []
    for many in range(most + 1):
        for lead, member in new_leads(field, pivots_on(many), many, leads, key):
            leads.append((many, lead))
            members.append(member)
    return tuple(members), leads


def spans(field, pivots, rows):
    """Whether all rows are sums of the rows with unlike leads."""
    return not any(reduce_row(field, pivots, row) for row in rows)


def told_otherwise(book, rnd):
    """A book that says the same: in another order, some sayings twice, times numbers, with carried ones besides."""
    field, kinds, sayings = book
    found = []
    for width, terms in sayings:
        factor = some_coef(field, rnd)
        found.append((width, terms_of({unknown: value_in(field, coef * factor)
                                       for unknown, coef in row_of(terms).items()})))
        if rnd.random() < 0.3:
            found.append((width, terms))
        if rnd.random() < 0.5 and width < 5:
            places = tuple(sorted(rnd.sample(range(width + 1), width)))
            found.append((width + 1, terms_of(carry_row(row_of(terms), places))))
    rnd.shuffle(found)
    return (field, kinds, tuple(found))


def mirrored_book(book):
    """The book with each saying turned about."""
    field, kinds, sayings = book
    return (field, kinds, tuple((width, terms_of({(kind, tuple(sorted(width - 1 - at for at in places))): coef
                                                  for (kind, places), coef in row_of(terms).items()}))
                                for width, terms in sayings))


def unlike_rows(one, other, many):
    """Which of two books says on so many places what the other one does not: a pair of truth values."""
    field = one[0]
    mine, yours = made_pivots(one, many), made_pivots(other, many)
    return (not spans(field, yours, mine.values()), not spans(field, mine, yours.values()))


def is_made(book, many, terms):
    return not reduce_row(book[0], made_pivots(book, many), row_of(terms))


def gaps(many, places):
    """How many places are ahead of, between and behind the places, counted one by one."""
    out = [0] * (len(places) + 1)
    for place in range(many):
        if place not in places:
            out[len([at for at in places if at < place])] += 1
    return tuple(out)


def can_be_carried(width, places, many, spots):
    """Whether some rising map of width places into many leads the places to the spots."""
    return any(tuple(chosen[at] for at in places) == spots for chosen in combinations(range(many), width))


def comes_to(book, table, many, terms):
    at = {unknown: Fraction(*number) for unknown, number in zip(unknowns(book[1], many), table)}
    return value_in(book[0], sum((coef * at[(kind, places)] for coef, kind, places in terms), Fraction(0)))


def broken_at(book, many, table):
    for index, (width, terms) in enumerate(book[2]):
        for places in sorted(combinations(range(many), width)):
            if comes_to(book, table, many, terms_of(carry_row(row_of(terms), places))) != 0:
                return (index, places)
    return None


def some_number(field, rnd, most=5):
    if field:
        return (rnd.randrange(field), 1)
    return number(Fraction(rnd.randint(-most, most), rnd.randint(1, 3)))


def some_table(book, many, rnd):
    return tuple(some_number(book[0], rnd) for _ in unknowns(book[1], many))


def kept_table(book, many, rnd):
    """A table that keeps the book: free numbers by chance, the others told by the rows with their leads."""
    field, kinds, _ = book
    pivots = made_pivots(book, many)
    at = {}
    for unknown in unknowns(kinds, many):
        if unknown in pivots:
            rest = sum((coef * at[other] for other, coef in pivots[unknown].items() if other != unknown), Fraction(0))
            at[unknown] = value_in(field, -rest)
        else:
            at[unknown] = Fraction(*some_number(field, rnd))
    return tuple(number(at[unknown]) for unknown in unknowns(kinds, many))


def parts_row(book, many, parts):
    """The sum of the numbers times the carried sayings."""
    row = {}
    for number_told, at, places in parts:
        width, terms = book[2][at]
        assert len(places) == width and set(places) <= set(range(many)) and tuple(sorted(set(places))) == places
        row = add_rows(book[0], row, carry_row(row_of(terms), places), Fraction(*number_told))
    return row


def something_made(book, many, rnd, turns=4):
    """TERMS that are a sum of some carried sayings, times some integers."""
    row = {}
    sayings = [(width, terms) for width, terms in book[2] if width <= many]
    for _ in range(turns if sayings else 0):
        width, terms = rnd.choice(sayings)
        places = tuple(sorted(rnd.sample(range(many), width)))
        row = add_rows(book[0], row, carry_row(row_of(terms), places), some_coef(book[0], rnd))
    return terms_of(row)
