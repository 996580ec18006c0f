"""[4], [6], [7], [20], [21] Bringing to nothing, overlaps, closed books."""

import unittest
from fractions import Fraction
from itertools import combinations, product

from risingsays.bringing import brought, is_closed, overlaps
from risingsays.errors import BadBook, BadParameter, BadTerms
from tests import plain
from tests.odd import ODD, IntChild, Placed, first_refused, refuses_place, refuses_value
from tests.test_tables import WRONG_BOOKS

ALIKE = (2, ((1, 0, (1,)), (-1, 0, (0,))))
SUMS = (0, (1,), ((2, ((1, 0, (1,)), (1, 0, (0,)))),))
PAIRS = (0, (2,), ((3, ((1, 0, (1, 2)), (-1, 0, (0, 2)), (1, 0, (0, 1)))),))


def lead_of(saying):
    return (saying[1][0][1], saying[1][0][2])


def map_to(saying, many, unknown):
    """The map with the lowest other places that leads the saying's lead to the unknown, None if there is none."""
    kind, places = lead_of(saying)
    if kind != unknown[0]:
        return None
    maps = [chosen for chosen in combinations(range(many), saying[0])
            if tuple(chosen[at] for at in places) == unknown[1]]
    return min(maps) if maps else None


def plainly_worked_on(book, many, row):
    """The work of [20], step by step; what is left as it is before it is made whole."""
    field, _, sayings = book
    while True:
        steps = [(unknown, saying, map_to(saying, many, unknown)) for unknown in row for saying in sayings
                 if map_to(saying, many, unknown) is not None]
        if not steps:
            return row
        greatest = max((unknown for unknown, _, _ in steps), key=plain.UNKNOWN_KEY)
        _, saying, chosen = [step for step in steps if step[0] == greatest][0]
        taken = plain.carry_row(plain.row_of(saying[1]), chosen)
        factor = plain.value_in(field, -row[greatest] * plain.inverted(field, taken[greatest]))
        row = plain.add_rows(field, row, taken, factor)


def plainly_brought(book, many, terms):
    return plain.whole_terms(book[0], plainly_worked_on(book, many, plain.row_of(terms)))


def plain_overlaps(book):
    """The words of [21], one by one."""
    field, _, sayings = book
    found = []
    for at, saying in enumerate(sayings):
        width, terms = saying
        lead = lead_of(saying)
        row = plain.row_of(terms)
        for idle in range(width):
            if idle not in lead[1]:
                without = [tuple(place for place in range(width + 1) if place != out) for out in (idle + 1, idle)]
                one, other = [plain.carry_row(row, chosen) for chosen in without]
                found.append((width + 1, plain.whole_terms(field, plain.add_rows(field, one, other, -1))))
        for less in sayings[:at]:
            if lead_of(less)[0] == lead[0]:
                found.append(plain_overlap(field, saying, less))
    return tuple(found)


def plain_overlap(field, saying, less):
    gaps = [max(pair) for pair in zip(plain.gaps(saying[0], lead_of(saying)[1]), plain.gaps(less[0], lead_of(less)[1]))]
    many = sum(gaps) + len(gaps) - 1
    spots = [places for places in combinations(range(many), len(gaps) - 1) if list(plain.gaps(many, places)) == gaps][0]
    unknown = (lead_of(saying)[0], spots)
    rows = []
    for one in (saying, less):
        row = plain.carry_row(plain.row_of(one[1]), map_to(one, many, unknown))
        factor = plain.inverted(field, row[unknown])
        rows.append({other: plain.value_in(field, coef * factor) for other, coef in row.items()})
    return (many, plain.whole_terms(field, plain.add_rows(field, rows[0], rows[1], -1)))


def some_books(seed, turns, widths=(1, 2, 3), sizes=(0, 1, 2, 3)):
    rnd = plain.dice(seed)
    for _ in range(turns):
        field = rnd.choice((0, 0, 2, 3, 997))
        kinds = rnd.choice([kinds for kinds in plain.KINDS_LOTS if min(kinds) <= max(widths)])
        yield rnd, plain.some_book(field, kinds, rnd, rnd.choice(sizes), widths)


class Brought(unittest.TestCase):
    def test_the_example(self):
        self.assertEqual(brought(SUMS, 3, ((1, 0, (1,)), (-1, 0, (0,)))), ((1, 0, (0,)),))

    def test_ordinary(self):
        self.assertEqual(brought(PAIRS, 3, ((1, 0, (1, 2)),)), ((1, 0, (0, 2)), (-1, 0, (0, 1))))
        self.assertEqual(brought(PAIRS, 4, ((1, 0, (2, 3)), (-1, 0, (1, 3)), (1, 0, (1, 2)))), ())
        self.assertEqual(brought(PAIRS, 3, ((-2, 0, (0, 2)),)), ((1, 0, (0, 2)),))
        self.assertEqual(brought(book=PAIRS, many=2, terms=()), ())
        self.assertEqual(brought((5, (1,), ((1, ((2, 0, (0,)),)),)), 3, ((4, 0, (1,)),)), ())

    def test_books_without_sayings(self):
        for field in (0, 2, 997):
            book = (field, (1,), ())
            self.assertEqual(brought(book, 0, ()), ())
            self.assertEqual(brought(book, 40, ((1, 0, (39,)),)), ((1, 0, (39,)),))
        self.assertEqual(brought((0, (1,), ()), 2, ((-4, 0, (1,)), (6, 0, (0,)))), ((2, 0, (1,)), (-3, 0, (0,))))

    def test_the_first_saying_that_reaches_is_taken(self):
        twice = (2, ((1, 0, (1,)), (-2, 0, (0,))))
        self.assertEqual(brought((0, (1,), (ALIKE, twice)), 2, ((1, 0, (1,)),)), ((1, 0, (0,)),))
        self.assertEqual(brought((0, (1,), (twice, ALIKE)), 2, ((3, 0, (1,)), (-5, 0, (0,)))), ((1, 0, (0,)),))
        # The third one reaches nothing on two places, whatever stands behind it.
        third = (3, ((1, 0, (2,)),))
        self.assertEqual(brought((0, (1,), (third, twice)), 2, ((1, 0, (1,)), (-2, 0, (0,)))), ())
        self.assertEqual(brought((0, (1,), (third, twice)), 3, ((1, 0, (2,)), (1, 0, (0,)))), ((1, 0, (0,)),))
        self.assertEqual(brought((0, (1,), (twice, third)), 3, ((1, 0, (2,)), (1, 0, (0,)))), ((1, 0, (0,)),))

    def test_idle_places_are_the_lowest_ones(self):
        # The lead is the place 2 of 5, with two idle ones on both sides.
        book = (0, (1, 1), ((5, ((1, 1, (2,)), (7, 0, (1,)), (3, 0, (0,)))),))
        self.assertEqual(brought(book, 9, ((1, 1, (5,)),)), ((7, 0, (1,)), (3, 0, (0,))))
        behind = (0, (1, 2), ((3, ((1, 1, (0, 2)), (1, 0, (1,)))),))
        self.assertEqual(brought(behind, 9, ((1, 1, (3, 7)),)), ((1, 0, (4,)),))
        self.assertEqual(brought(behind, 9, ((1, 1, (6, 7)),)), ((1, 1, (6, 7)),))
        last = (0, (1, 2), ((4, ((1, 1, (2, 3)), (5, 1, (1, 3)), (2, 0, (0,)))),))
        self.assertEqual(brought(last, 6, ((1, 1, (4, 5)),)), ((5, 1, (1, 5)), (2, 0, (0,))))

    def test_all_is_brought_down_not_the_lead_alone(self):
        book = (0, (1,), ((1, ((1, 0, (0,)),)),))
        self.assertEqual(brought((0, (1, 0), ((1, ((1, 0, (0,)), (-1, 1, ()))),)), 3,
                                 ((1, 0, (2,)), (1, 0, (1,)), (1, 0, (0,)), (-3, 1, ()))), ())
        self.assertEqual(brought(book, 40, tuple((at + 1, 0, (at,)) for at in range(39, -1, -1))), ())

    def test_arities_nought_and_three(self):
        book = (0, (0, 3), ((0, ((2, 0, ()),)), (3, ((3, 1, (0, 1, 2)), (1, 0, ())))))
        self.assertEqual(brought(book, 0, ((5, 0, ()),)), ())
        self.assertEqual(brought(book, 3, ((1, 1, (0, 1, 2)),)), ())
        book = (0, (0, 3), ((3, ((3, 1, (0, 1, 2)), (1, 0, ()))),))
        self.assertEqual(brought(book, 5, ((6, 1, (2, 3, 4)), (1, 1, (0, 1, 2)))), ((1, 0, ()),))
        self.assertEqual(brought((2, (0, 0), ((4, ((1, 0, ()),)), (5, ((1, 1, ()),)))), 4, ((1, 1, ()), (1, 0, ()))),
                         ((1, 1, ()),))

    def test_many_places(self):
        every = tuple((1, 0, places) for _, places in reversed(plain.unknowns((2,), 40)))
        self.assertEqual(len(every), 780)
        left = brought(PAIRS, 40, every)
        # The pair (I, J) is (0, J) less (0, I): J times as ends, 39 - J times as starts, and once itself from I = 0.
        row = {}
        for coef, _, (one, other) in every:
            for place, sign in ((other, 1), (one, -1)):
                if place:
                    row[(0, (0, place))] = row.get((0, (0, place)), 0) + coef * sign
        self.assertEqual(left, plain.whole_terms(0, {unknown: Fraction(coef) for unknown, coef in row.items() if coef}))

    def test_step_by_step(self):
        for rnd, book in some_books(41, 250):
            many = rnd.randint(0, 5)
            terms = plain.some_terms(book[0], book[1], many, rnd)
            self.assertEqual(brought(book, many, terms), plainly_brought(book, many, terms), (book, many, terms))

    def test_what_is_left_differs_by_something_made(self):
        for rnd, book in some_books(42, 60):
            many = rnd.randint(1, 5)
            terms = plain.some_terms(book[0], book[1], many, rnd)
            left = brought(book, many, terms)
            pivots = plain.made_pivots(book, many)
            one = plain.reduce_row(book[0], pivots, plain.row_of(terms))
            other = plain.reduce_row(book[0], pivots, plain.row_of(left))
            self.assertEqual(plain.whole_terms(book[0], one), plain.whole_terms(book[0], other))

    def test_fractions_with_many_figures(self):
        big = 10 ** 60
        book = (0, (1,), ((2, ((big + 1, 0, (1,)), (-big, 0, (0,)))),))
        self.assertEqual(brought(book, 3, ((1, 0, (2,)), (1, 0, (1,)))), ((1, 0, (0,)),))
        self.assertEqual(brought(book, 3, ((big + 1, 0, (2,)), (-big, 0, (0,)))), ())

    def test_wrong_parameters(self):
        for place, book in WRONG_BOOKS:
            refuses_place(self, BadBook, place, brought, book, 41, None)
            refuses_place(self, BadBook, place, overlaps, book)
            refuses_place(self, BadBook, place, is_closed, book)
        for book in ODD:
            for call, more in ((brought, (3, ())), (overlaps, ()), (is_closed, ())):
                refuses_place(self, BadBook, (), call, book, *more)
        for many in ODD + (-1, 41, (), IntChild(3)):
            refuses_value(self, BadParameter, many, brought, SUMS, many, ())
        for terms in ODD + (0, [(1, 0, (0,))]):
            refuses_place(self, BadTerms, (), brought, SUMS, 3, terms)
        for term in ODD + ((0, 0, (0,)), (1, 1, (0,)), (1, 0, (0, 1)), (1, 0, (3,)), (1, 0, [0]), (True, 0, (0,))):
            refuses_place(self, BadTerms, (0,), brought, SUMS, 3, (term,))
        refuses_place(self, BadTerms, (1,), brought, SUMS, 3, ((1, 0, (0,)), (1, 0, (1,))))
        refuses_place(self, BadTerms, (0,), brought, (2, (1,), ()), 3, ((2, 0, (0,)),))
        first_refused(self, brought, (SUMS, 3, ()),
                      {0: Placed((BadBook, (0, (1,), (None,)), (2, 0))), 1: 3.0, 2: Placed((BadTerms, (1,), (0,)))})


class Overlaps(unittest.TestCase):
    def test_the_examples(self):
        self.assertEqual(overlaps(SUMS), ((3, ((1, 0, (1,)), (-1, 0, (0,)))),))
        self.assertEqual(overlaps(PAIRS),
                         ((4, ((1, 0, (1, 3)), (-1, 0, (0, 3)), (-1, 0, (1, 2)), (1, 0, (0, 2)))),))

    def test_their_order(self):
        book = (0, (1,), SUMS[2] + ((3, ((1, 0, (0,)),)),))
        self.assertEqual(overlaps(book), ((3, ((1, 0, (1,)), (-1, 0, (0,)))),
                                          (4, ()), (4, ()), (4, ((1, 0, (0,)),))))

    def test_no_sayings_and_other_kinds(self):
        self.assertEqual(overlaps((0, (1,), ())), ())
        self.assertEqual(overlaps(book=(0, (1, 1), ((1, ((1, 1, (0,)),)), (1, ((1, 0, (0,)),))))), ())

    def test_the_same_saying_twice(self):
        self.assertEqual(overlaps((5, (0,), ((0, ((2, 0, ()),)), (0, ((4, 0, ()),))))), ((0, ()),))

    def test_arity_nought(self):
        book = (0, (0, 1), ((2, ((1, 1, (0,)), (3, 0, ()))), (1, ((1, 0, ()),)), (3, ((2, 0, ()),))))
        self.assertEqual(overlaps(book), ((3, ()), (2, ()), (4, ()), (4, ()), (4, ()), (3, ())))

    def test_the_later_one_less_the_earlier_one_where_their_leads_come_together(self):
        one = (3, ((2, 1, (1,)), (1, 0, (0,))))
        other = (4, ((-3, 1, (2,)), (1, 0, (1,))))
        self.assertEqual(overlaps((0, (1, 1), (one, other)))[-1],
                         (4, ((2, 0, (1,)), (3, 0, (0,)))))
        gone = (2, ((1, 1, (1,)), (1, 0, (1,))))
        last = (3, ((1, 1, (2,)), (1, 0, (0,))))
        self.assertEqual(overlaps((0, (1, 1), (gone, last)))[-1], (3, ((1, 0, (2,)), (-1, 0, (0,)))))

    def test_word_by_word(self):
        for _, book in some_books(43, 200, (1, 2, 3, 4)):
            self.assertEqual(overlaps(book), plain_overlaps(book), book)

    def test_what_is_told_is_made(self):
        for _, book in some_books(44, 40, (1, 2)):
            for many, terms in overlaps(book):
                self.assertTrue(plain.is_made(book, many, terms))

    def test_twelve_places(self):
        book = (0, (0,), ((6, ((1, 0, ()),)),))
        self.assertEqual(overlaps(book), ((7, ()),) * 6)
        book = (0, (1, 0), ((6, ((1, 0, (0,)),)), (6, ((1, 0, (5,)), (-1, 1, ())))))
        self.assertEqual(overlaps(book)[-1], (11, ((1, 1, ()),)))
        book = (0, (0, 0), ((6, ((1, 1, ()),)), (6, ((1, 1, ()), (1, 0, ())))))
        self.assertEqual(overlaps(book)[-1], (6, ((1, 0, ()),)))


class IsClosed(unittest.TestCase):
    def test_the_examples(self):
        self.assertIs(is_closed(PAIRS), True)
        for prime in (2, 3, 997):
            saying = (3, ((1, 0, (1, 2)), (prime - 1, 0, (0, 2)), (1, 0, (0, 1))))
            self.assertIs(is_closed((prime, (2,), (saying,))), True)
        self.assertIs(is_closed(SUMS), False)
        self.assertIs(is_closed((2,) + SUMS[1:]), True)
        self.assertIs(is_closed((0, (1,), SUMS[2] + ((3, ((1, 0, (0,)),)),))), True)

    def test_no_sayings(self):
        self.assertIs(is_closed((0, (3, 0), ())), True)
        self.assertIs(is_closed(book=(997, (1,), ())), True)

    def test_it_is_so_if_all_leads_are_reached(self):
        closed = 0
        for _, book in some_books(45, 150, (1, 2), (2, 3)):
            reached = True
            for many in range(1, 6):
                for unknown in plain.made_pivots(book, many):
                    if not any(map_to(saying, many, unknown) for saying in book[2]):
                        reached = False
            self.assertIs(is_closed(book), reached, book)
            closed += reached
        self.assertGreater(closed, 20)
        self.assertLess(closed, 130)

    def test_a_closed_book_brings_just_what_is_made_to_nothing(self):
        for _, book in some_books(46, 80, (1, 2), (1, 2)):
            if not is_closed(book):
                continue
            rnd = plain.dice(47)
            for many in range(5):
                for _ in range(5):
                    terms = plain.some_terms(book[0], book[1], many, rnd)
                    self.assertIs(brought(book, many, terms) == (), plain.is_made(book, many, terms))

    def test_what_is_left_of_a_closed_book_does_not_hang_on_the_order(self):
        sayings = SUMS[2] + ((3, ((1, 0, (0,)),)), (3, ((2, 0, (1,)),)))
        for one, other in product(range(3), repeat=2):
            lot = list(sayings)
            lot[one], lot[other] = lot[other], lot[one]
            book = (0, (1,), tuple(lot))
            self.assertIs(is_closed(book), True)
            for at in range(4):
                self.assertEqual(brought(book, 4, ((1, 0, (at,)),)), ())


if __name__ == "__main__":
    unittest.main()
