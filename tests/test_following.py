"""[4], [5], [6], [19], [25], [27], [28] From where on a saying holds, and tables that break it."""

import unittest
from itertools import combinations
from math import comb

from risingsays.closing import closed_book
from risingsays.errors import BadBook, BadParameter, BadSaying, NoRow, TooGreat
from risingsays.following import breaking, holds_at, holds_from, is_breaking
from risingsays.formulas import value_at
from risingsays.free import free_formula
from risingsays.sayings import unknowns
from risingsays.tables import nought_table
from tests import plain
from tests.odd import (ODD, IntChild, Placed, Spiteful, TupleChild, first_refused, refusal, refuses_most, refuses_place,
                       refuses_value)
from tests.test_closing import EIGHT, SEVEN, full_book
from tests.test_tables import NO_FRACTIONS, WRONG_BOOKS, WRONG_MANY

PLUS = (2, ((1, 0, (1,)), (1, 0, (0,))))
LESS = (2, ((1, 0, (1,)), (-1, 0, (0,))))
NULL = (1, ((1, 0, (0,)),))
SUMS = (0, (1,), (PLUS,))
SUMS_OF_TWO = (2, (1,), (PLUS,))
PAIRS = (0, (2,), ((3, ((1, 0, (1, 2)), (-1, 0, (0, 2)), (1, 0, (0, 1)))),))
FAR = (0, (1,), ((6, ((1, 0, (0,)),)),))
WRONG_SAYINGS = (((), None), ((), ()), ((), (1,)), ((), [1, ((1, 0, (0,)),)]), ((), NULL + (0,)), ((), TupleChild(NULL)),
                 ((0,), (7, ((1, 0, (0,)),))), ((0,), (-1, ((1, 0, (0,)),))), ((0,), (True, ((1, 0, (0,)),))),
                 ((0,), (IntChild(1), ((1, 0, (0,)),))), ((0,), (None, None)), ((1,), (1, ())), ((1,), (1, None)),
                 ((1,), (1, [(1, 0, (0,))])), ((1, 0), (1, (None,))), ((1, 0), (1, ((0, 0, (0,)),))),
                 ((1, 0), (1, ((1, 1, (0,)),))), ((1, 0), (1, ((1, 0, (1,)),))), ((1, 1), (2, ((1, 0, (0,)), (1, 0, (1,))))))


def holds(book, saying, many):
    """[5], [6] by elimination: whether all that is carried of the saying is made."""
    pivots = plain.made_pivots(book, many)
    return all(not plain.reduce_row(book[0], pivots, plain.carry_row(plain.row_of(saying[1]), places))
               for places in combinations(range(many), saying[0]))


def sayings_for(rnd, book, widths=(1, 2, 3)):
    """A saying that is made of the book, one that is made and a bit more, one that is any."""
    field, kinds, _ = book
    width = rnd.choice(widths)
    made = plain.something_made(book, width, rnd)
    bit = plain.row_of(plain.some_terms(field, kinds, width, rnd, 1))
    more = plain.terms_of(plain.add_rows(field, plain.row_of(made), bit, plain.some_coef(field, rnd)))
    return [(width, terms) for terms in (made, more) if terms] + [plain.some_saying(field, kinds, rnd, widths)]


def some_pairs(seed, turns, widths=(1, 2, 3)):
    """A book of one or two sayings and a saying."""
    rnd = plain.dice(seed)
    for _ in range(turns):
        field = rnd.choice((0, 0, 2, 3, 997))
        kinds = rnd.choice([kinds for kinds in plain.KINDS_LOTS if min(kinds) <= max(widths)])
        book = plain.some_book(field, kinds, rnd, rnd.choice((1, 1, 2)), widths)
        for saying in sayings_for(rnd, book, widths):
            yield rnd, book, saying


def is_let(book, saying):
    """Whether both closed lists have members of at most six places."""
    try:
        closed_book(book)
        closed_book(book[:2] + (book[2] + (saying,),))
    except TooGreat:
        return False
    return True


class HoldsFrom(unittest.TestCase):
    def test_the_examples(self):
        self.assertEqual(holds_from(SUMS, NULL), 3)
        self.assertIsNone(holds_from(SUMS_OF_TWO, NULL))
        self.assertEqual(holds_from(SUMS, LESS), 3)
        self.assertEqual(holds_from(book=SUMS_OF_TWO, saying=(2, ((1, 0, (1,)), (1, 0, (0,))))), 2)

    def test_sayings_of_the_book_hold_from_their_width_on(self):
        for _, book, _ in some_pairs(111, 40):
            for saying in book[2]:
                self.assertEqual(holds_from(book, saying), saying[0])
                self.assertIs(holds_at(book, saying, saying[0]), True)

    def test_no_sayings(self):
        self.assertIsNone(holds_from((0, (1,), ()), NULL))
        self.assertIs(holds_at((0, (1,), ()), NULL, 40), False)
        self.assertIs(holds_at((0, (1,), ()), NULL, 0), True)

    def test_from_great_numbers_on(self):
        # What has five places behind it is nought, what has five ahead of it, too: from ten places on that is all.
        self.assertEqual(holds_from(FAR, (1, ((1, 0, (0,)),))), None)
        ends = (0, (1,), ((6, ((1, 0, (0,)),)), (6, ((1, 0, (5,)),))))
        for many in range(13):
            self.assertIs(holds_at(ends, NULL, many), many == 0 or many >= 10, many)
        self.assertEqual(holds_from(ends, NULL), 10)
        middle = (0, (2,), ((6, ((1, 0, (0, 5)),)), (6, ((1, 0, (0, 1)),)), (6, ((1, 0, (4, 5)),))))
        pair = (2, ((1, 0, (0, 1)),))
        start = holds_from(middle, pair)
        self.assertGreater(start, 7)
        for many in range(6, start + 2):
            self.assertIs(holds(middle, pair, many), many >= start)

    def test_by_elimination(self):
        nowhere = later = 0
        for _, book, saying in some_pairs(112, 120):
            start = holds_from(book, saying)
            nowhere += start is None
            later += start is not None and start > saying[0]
            for many in range(7):
                told = holds(book, saying, many)
                self.assertIs(holds_at(book, saying, many), told, (book, saying, many))
                self.assertIs(told, many < saying[0] or (start is not None and many >= start), (book, saying, many))
        self.assertGreater(nowhere, 20)
        self.assertGreater(later, 5)

    def test_wide_sayings_by_elimination(self):
        for _, book, saying in some_pairs(113, 60, (0, 1, 2, 3, 4, 5)):
            if is_let(book, saying):
                for many in range(8):
                    self.assertIs(holds_at(book, saying, many), holds(book, saying, many), (book, saying, many))

    def test_it_holds_where_as_many_unknowns_are_free(self):
        for _, book, saying in some_pairs(114, 60):
            one = free_formula(book)
            other = free_formula(book[:2] + (book[2] + (saying,),))
            for many in list(range(saying[0], 20)) + [39, 40]:
                self.assertIs(holds_at(book=book, saying=saying, many=many), value_at(one, many) == value_at(other, many))

    def test_on_fewer_places_than_its_width_a_saying_says_nothing(self):
        for many in range(6):
            self.assertIs(holds_at((0, (1,), ()), FAR[2][0], many), True)
        for many in range(6, 41):
            self.assertIs(holds_at((0, (1,), ()), FAR[2][0], many), False)

    def test_too_great(self):
        sixty = (0, (1,), (NULL,) * 60)
        for call, more in ((holds_from, ()), (holds_at, (0,)), (breaking, (1,))):
            refuses_most(self, TooGreat, 60, call, sixty, NULL, *more)
            refuses_most(self, TooGreat, 60, call, SEVEN[:2] + (SEVEN[2] * 60,), NULL, *more)
            refuses_most(self, TooGreat, 6, call, SEVEN[:2] + (SEVEN[2] * 59,), NULL, *more)
            refuses_most(self, TooGreat, 6, call, SEVEN, NULL, *more)
            # With the saying the closed list is too great, without it it isn't.
            refuses_most(self, TooGreat, 6, call, SEVEN[:2] + ((),), SEVEN[2][0], *more)
            refuses_most(self, TooGreat, 60, call, full_book((3,) * 6), (3, ((1, 0, (0, 1, 2)),)), *more)
        self.assertEqual(holds_from((0, (1,), (NULL,) * 59), PLUS), 2)
        # Sixty members, with the saying sixty-one; with the saying fewer, as it says more.
        full = full_book((3,) * 5 + (1,))
        refuses_most(self, TooGreat, 60, holds_from, full, (1, ((1, 5, (0,)),)))
        self.assertEqual(holds_from(full, (3, ((1, 0, (0, 1, 2)),))), 6)
        refuses_most(self, TooGreat, 60, holds_from, full_book((3,) * 6), (3, ((1, 0, (0, 1, 2)),)))
        # What the book is refused for comes ahead of what the book with the saying is refused for.
        refuses_most(self, TooGreat, 60, holds_from, full_book((3,) * 6 + (1,)), (6, ((1, 6, (5,)), (996, 6, (0,)))))

    def test_wrong_parameters(self):
        for call, more in ((holds_from, ()), (holds_at, (3,)), (breaking, (2,)), (is_breaking, (2, None))):
            for place, book in WRONG_BOOKS:
                refuses_place(self, BadBook, place, call, book, None, *more)
                refuses_place(self, BadBook, place, call, book, NULL, *more)
            for book in ODD:
                refuses_place(self, BadBook, (), call, book, NULL, *more)
            for saying in ODD:
                refuses_place(self, BadSaying, (), call, SUMS, saying, *more)
            for place, saying in WRONG_SAYINGS:
                refuses_place(self, BadSaying, place, call, SUMS, saying, *more)
                refuses_place(self, BadSaying, place, call, (0, (1,), (NULL,) * 60), saying, *more)
            refuses_place(self, BadSaying, (1, 0), call, SUMS_OF_TWO, LESS[:1] + (((2, 0, (0,)),),), *more)
        for many in WRONG_MANY:
            refuses_value(self, BadParameter, many, holds_at, SUMS, NULL, many)
            refuses_value(self, BadParameter, many, holds_at, (0, (1,), (NULL,) * 60), NULL, many)
            refuses_value(self, BadParameter, many, breaking, SEVEN, NULL, many)
            refuses_value(self, BadParameter, many, is_breaking, SEVEN, NULL, many, None)
        bad = {0: Placed((BadBook, (0, (1,), (None,)), (2, 0))), 1: Placed((BadSaying, (1, ()), (1,))), 2: 41}
        first_refused(self, holds_from, (SUMS, NULL), {at: bad[at] for at in (0, 1)})
        first_refused(self, holds_at, (SUMS, NULL, 3), bad)
        first_refused(self, breaking, (SUMS, NULL, 2), bad)
        first_refused(self, is_breaking, (SUMS, NULL, 2, ()), bad)


class Breaking(unittest.TestCase):
    def check_breaking(self, book, saying, many):
        table = breaking(book, saying, many)
        self.assertIsNone(plain.broken_at(book, many, table))
        self.assertIsNotNone(plain.broken_at(book[:2] + ((saying,),), many, table))
        self.assertIs(is_breaking(book, saying, many, table), True)
        self.assertIs(is_breaking(book=book, saying=saying, many=many, value=table), True)
        self.assertEqual(breaking(book=book, saying=saying, many=many), table)
        return table

    def test_the_example(self):
        self.check_breaking(SUMS, NULL, 2)
        self.check_breaking(SUMS, NULL, 1)
        self.assertIs(is_breaking(SUMS, NULL, 2, ((1, 1), (-1, 1))), True)
        for many in (0, 3, 4, 40):
            refusal(self, NoRow, breaking, SUMS, NULL, many)
        for many in range(1, 12):
            self.check_breaking(SUMS_OF_TWO, NULL, many)

    def test_just_where_it_does_not_hold(self):
        for _, book, saying in some_pairs(121, 80):
            for many in range(6):
                if holds_at(book, saying, many):
                    refusal(self, NoRow, breaking, book, saying, many)
                else:
                    self.check_breaking(book, saying, many)

    def test_bounds(self):
        # Unknowns first, then maps, then what holds_at refuses.
        sixty = (0, (1,), (NULL,) * 60)
        four = (4, ((1, 0, (0,)),))
        self.assertEqual((comb(19, 4), comb(20, 4)), (3876, 4845))
        self.assertGreater(comb(21, 4), 5000)
        for call, more in ((breaking, ()), (is_breaking, (None,))):
            refuses_most(self, TooGreat, 400, call, (0, (1, 2), (NULL,) * 60), four, 28, *more)
            refuses_most(self, TooGreat, 5000, call, sixty, four, 21, *more)
            refuses_most(self, TooGreat, 5000, call, (0, (1, 2), (NULL,) * 60), four, 27, *more)
        refuses_most(self, TooGreat, 60, breaking, sixty, four, 20)
        self.assertIs(is_breaking(sixty, four, 20, None), False)
        # For the judge what is bounded is the saying's maps; the book's own may be more.
        self.check_breaking((0, (1,), ()), four, 20)
        wide = (0, (1,), ((6, ((1, 0, (5,)), (-1, 0, (4,)))),))
        table = breaking(wide, NULL, 40)
        self.assertIs(is_breaking(wide, NULL, 40, table), True)
        self.assertIs(is_breaking(wide, NULL, 40, nought_table(wide, 40)), False)
        self.assertIs(is_breaking(wide, NULL, 40, table[:-1] + ((7, 1),)), False)
        self.assertIs(is_breaking(SEVEN, NULL, 40, ((1, 1),) * 40), True)
        self.assertIs(is_breaking(SEVEN, NULL, 40, ((1, 1),) * 39 + ((2, 1),)), False)
        self.assertIs(is_breaking(SEVEN, NULL, 6, ((1, 1), (2, 1), (3, 1), (4, 1), (5, 1), (1, 1))), True)
        self.assertIs(is_breaking(SEVEN, NULL, 7, ((1, 1), (2, 1), (3, 1), (4, 1), (5, 1), (1, 1), (1, 1))), False)
        self.assertIs(is_breaking(EIGHT, (2, ((1, 1, (0, 1)),)), 28 - 9, ((0, 1),) * 342), False)

    def test_other_right_tables_and_bent_ones(self):
        for value in (((1, 2), (-1, 2)), ((-7, 1), (7, 1)), ((10 ** 50, 1), (-10 ** 50, 1))):
            self.assertIs(is_breaking(SUMS, NULL, 2, value), True)
        for value in (((0, 1), (0, 1)), ((1, 1), (1, 1)), ((1, 1), (0, 1)), ((1, 1),), ((1, 1), (-1, 1), (1, 1)), (),
                      ((1, 1), (-2, 2)), [(1, 1), (-1, 1)], ([1, 1], [-1, 1]), TupleChild(((1, 1), (-1, 1)))):
            self.assertIs(is_breaking(SUMS, NULL, 2, value), False)
        self.assertIs(is_breaking(SUMS, NULL, 1, ((5, 3),)), True)
        self.assertIs(is_breaking(SUMS, NULL, 0, ()), False)
        self.assertIs(is_breaking(SUMS, PLUS, 2, ((1, 1), (1, 1))), False)
        self.assertIs(is_breaking(SUMS_OF_TWO, NULL, 2, ((1, 1), (1, 1))), True)
        self.assertIs(is_breaking(SUMS_OF_TWO, NULL, 2, ((1, 1), (-1, 1))), False)
        self.assertIs(is_breaking(SUMS_OF_TWO, NULL, 2, ((1, 1), (3, 1))), False)

    def test_values_of_odd_kinds(self):
        for value in ODD:
            self.assertIs(is_breaking(SUMS, NULL, 2, value), False)
            self.assertIs(is_breaking(SUMS, NULL, 2, (value, value)), False)
        for number in NO_FRACTIONS + (Spiteful(),):
            self.assertIs(is_breaking(SUMS, NULL, 2, ((1, 1), number)), False)
            self.assertIs(is_breaking(SUMS, NULL, 2, (number, (-1, 1))), False)

    def test_bent_by_chance(self):
        told = [0, 0]
        for rnd, book, saying in some_pairs(122, 60):
            many = rnd.randint(1, 4)
            table = list(plain.kept_table(book, many, rnd))
            for turn in range(2):
                right = (plain.broken_at(book, many, table) is None
                         and plain.broken_at(book[:2] + ((saying,),), many, table) is not None)
                told[right] += 1
                self.assertIs(is_breaking(book, saying, many, tuple(table)), right)
                if table:
                    table[rnd.randrange(len(table))] = plain.some_number(book[0], rnd)
        self.assertGreater(min(told), 30)

    def test_many_unknowns(self):
        table = self.check_breaking(PAIRS, (2, ((1, 0, (0, 1)),)), 12)
        self.assertEqual(len(table), len(unknowns((2,), 12)))


if __name__ == "__main__":
    unittest.main()
