"""[8], [19], [25], [26] Leads, free unknowns, tables that are told by their numbers."""

import unittest

from risingsays.closing import closed_book
from risingsays.errors import BadBook, BadParameter, BadTable, TooGreat
from risingsays.formulas import value_at
from risingsays.free import basis, free_at, free_formula, lead_rows, solved
from risingsays.gaps import gaps_of
from risingsays.sayings import unknowns
from risingsays.tables import keeps, need_table, nought_table, table_sum
from tests import plain
from tests.odd import ODD, Placed, TupleChild, first_refused, refuses_most, refuses_place, refuses_value
from tests.test_bringing import some_books
from tests.test_closing import EIGHT, SEVEN, full_book
from tests.test_tables import NO_FRACTIONS, NO_THIRDS, WRONG_BOOKS, WRONG_MANY

SUMS = (0, (1,), ((2, ((1, 0, (1,)), (1, 0, (0,)))),))
SUMS_OF_TWO = (2,) + SUMS[1:]
PAIRS = (0, (2,), ((3, ((1, 0, (1, 2)), (-1, 0, (0, 2)), (1, 0, (0, 1)))),))
ONE = (1, 1)
NOUGHT = (0, 1)


class LeadRows(unittest.TestCase):
    def test_the_examples(self):
        self.assertEqual(lead_rows(PAIRS), (((1, 0, 0),),))
        self.assertEqual(lead_rows(SUMS), (((0, 2), (1, 0)),))
        self.assertEqual(lead_rows(book=SUMS_OF_TWO), (((1, 0),),))

    def test_kinds_without_leads(self):
        self.assertEqual(lead_rows((0, (1, 0, 3), ())), ((), (), ()))
        self.assertEqual(lead_rows((0, (1, 0, 1), ((2, ((1, 2, (0,)), (1, 1, ()))), (1, ((3, 1, ()),))))),
                         ((), ((1,),), ((0, 1),)))

    def test_ordinary(self):
        for _, book in some_books(101, 100):
            rows = [[] for _ in book[1]]
            for width, (kind, places) in plain.closed_list(book, 6)[1]:
                rows[kind].append(gaps_of(width, places))
            self.assertEqual(lead_rows(book), tuple(tuple(sorted(row)) for row in rows))

    def test_more_than_sixty_members_are_let(self):
        book = full_book((3,) * 6)
        rows = lead_rows(book)
        self.assertEqual(sum(len(row) for row in rows), 72)
        self.assertEqual(free_formula(book)[1], (0, 0, 0, 0))
        self.assertEqual(free_formula(book)[0], (0, 0, 0, 6, 24, 36))
        self.assertEqual(free_at(book, 6), ())
        self.assertEqual(len(free_at(book, 5)), 36)
        self.assertEqual(len(basis(book, 5)), 36)
        self.assertEqual(solved(book, 6, ()), (NOUGHT,) * 120)


class FreeAt(unittest.TestCase):
    def test_the_examples(self):
        self.assertEqual(free_at(PAIRS, 3), ((0, (0, 1)), (0, (0, 2))))
        for many in range(1, 29):
            self.assertEqual(free_at(PAIRS, many), tuple((0, (0, at)) for at in range(1, many)))
        self.assertEqual(free_at(PAIRS, 0), ())
        self.assertEqual([len(free_at(SUMS, many)) for many in range(6)], [0, 1, 1, 0, 0, 0])
        self.assertEqual([len(free_at(book=SUMS_OF_TWO, many=many)) for many in range(6)], [0, 1, 1, 1, 1, 1])

    def test_all_unknowns_are_free_without_sayings(self):
        for kinds in plain.KINDS_LOTS:
            for many in range(6):
                self.assertEqual(free_at((7, kinds, ()), many), unknowns(kinds, many))
        self.assertEqual(len(free_at((0, (2, 1, 1, 1, 1), ()), 25)), 400)

    def test_ordinary(self):
        for _, book in some_books(102, 80):
            for many in range(6):
                pivots = plain.made_pivots(book, many)
                self.assertEqual(free_at(book, many), tuple(unknown for unknown in plain.unknowns(book[1], many)
                                                            if unknown not in pivots))


class FreeFormula(unittest.TestCase):
    def test_the_examples(self):
        self.assertEqual(free_formula(PAIRS), ((0,), (-1, 1, 0, 0)))
        self.assertEqual(free_formula(SUMS), ((0, 1, 1), (0, 0, 0, 0)))
        self.assertEqual(free_formula(book=SUMS_OF_TWO), ((0,), (1, 0, 0, 0)))

    def test_no_sayings(self):
        self.assertEqual(free_formula((0, (0,), ())), ((), (1, 0, 0, 0)))
        self.assertEqual(free_formula((3, (0, 1, 1, 3, 2, 3, 3), ())), ((), (1, 2, 1, 3)))

    def test_as_many_as_are_free(self):
        for _, book in some_books(103, 100):
            formula = free_formula(book)
            for many in range(9):
                self.assertEqual(value_at(formula, many), len(free_at(book, many)))
            for many in range(6):
                free = len(plain.unknowns(book[1], many)) - len(plain.made_pivots(book, many))
                self.assertEqual(value_at(formula, many), free)

    def test_great_numbers_of_places(self):
        self.assertEqual(value_at(free_formula(PAIRS), 10 ** 8), 10 ** 8 - 1)
        self.assertEqual(value_at(free_formula(SUMS), 10 ** 30), 0)
        for many in (10 ** 8, 10 ** 8 + 7, 10 ** 30):
            self.assertEqual(value_at(free_formula((0, (3,), ((3, ((1, 0, (0, 1, 2)),)),))), many), 0)
            # Pairs with a place between them are nought: those side by side are free.
            self.assertEqual(value_at(free_formula((0, (2,), ((3, ((1, 0, (0, 2)),)),))), many), many - 1)
            self.assertEqual(value_at(free_formula((0, (2, 1), ((3, ((1, 0, (0, 2)),)),))), many), 2 * many - 1)
            self.assertEqual(value_at(free_formula((0, (3, 3), ((3, ((1, 1, (0, 1, 2)), (1, 0, (0, 1, 2)))),))), many),
                             many * (many - 1) * (many - 2) // 6)


class Solved(unittest.TestCase):
    def test_the_example(self):
        self.assertEqual(solved(PAIRS, 3, ((2, 1), (5, 1))), ((2, 1), (5, 1), (3, 1)))

    def test_a_table_is_told_by_its_first_row(self):
        numbers = tuple((at * at, 1) for at in range(1, 28))
        table = solved(book=PAIRS, many=28, numbers=numbers)
        row = (NOUGHT,) + numbers
        self.assertEqual(table, tuple((row[other][0] - row[one][0], 1) if one else row[other]
                                      for _, (one, other) in unknowns((2,), 28)))

    def test_no_places_and_no_free_unknowns(self):
        self.assertEqual(solved(PAIRS, 0, ()), ())
        self.assertEqual(solved(SUMS, 3, ()), (NOUGHT,) * 3)
        self.assertEqual(solved(SUMS, 2, ((1, 3),)), ((1, 3), (-1, 3)))
        self.assertEqual(solved(SUMS_OF_TWO, 3, (ONE,)), (ONE,) * 3)

    def test_it_keeps_the_book_and_has_the_numbers(self):
        for rnd, book in some_books(104, 120):
            many = rnd.randint(0, 6)
            free = free_at(book, many)
            numbers = tuple(plain.some_number(book[0], rnd) for _ in free)
            table = solved(book, many, numbers)
            self.assertIs(need_table(book, many, table), table)
            self.assertIs(keeps(book, many, table), True)
            self.assertIsNone(plain.broken_at(book, many, table))
            at = dict(zip(unknowns(book[1], many), table))
            self.assertEqual(tuple(at[unknown] for unknown in free), numbers)

    def test_each_table_that_keeps_the_book_is_told_by_its_free_numbers(self):
        for rnd, book in some_books(105, 60):
            many = rnd.randint(0, 5)
            table = plain.kept_table(book, many, rnd)
            at = dict(zip(unknowns(book[1], many), table))
            self.assertEqual(solved(book, many, tuple(at[unknown] for unknown in free_at(book, many))), table)

    def test_wrong_numbers(self):
        for numbers in ODD + (0, (), (ONE,), (ONE,) * 3, [ONE, ONE], (None,) * 3, TupleChild((ONE, ONE))):
            refuses_place(self, BadTable, (), solved, PAIRS, 3, numbers)
        for number in NO_FRACTIONS:
            refuses_place(self, BadTable, (0,), solved, PAIRS, 3, (number, number))
            refuses_place(self, BadTable, (1,), solved, PAIRS, 3, (ONE, number))
        for number in NO_THIRDS:
            refuses_place(self, BadTable, (0,), solved, (3, (1,), ()), 1, (number,))
        refuses_place(self, BadTable, (), solved, SUMS, 3, (NOUGHT,))


class Basis(unittest.TestCase):
    def test_ordinary(self):
        self.assertEqual(basis(PAIRS, 3), ((ONE, NOUGHT, (-1, 1)), (NOUGHT, ONE, ONE)))
        self.assertEqual(basis(SUMS, 2), ((ONE, (-1, 1)),))
        self.assertEqual(basis(book=SUMS, many=3), ())
        self.assertEqual(basis((5,) + SUMS[1:], 2), ((ONE, (4, 1)),))
        self.assertEqual(basis((0, (1,), ()), 2), ((ONE, NOUGHT), (NOUGHT, ONE)))

    def test_one_at_one_free_unknown(self):
        for rnd, book in some_books(106, 80):
            many = rnd.randint(0, 5)
            free = free_at(book, many)
            tables = basis(book, many)
            self.assertEqual(len(tables), len(free))
            for at, table in enumerate(tables):
                numbers = tuple(ONE if other == at else NOUGHT for other in range(len(free)))
                self.assertEqual(table, solved(book, many, numbers))
                self.assertIs(keeps(book, many, table), True)

    def test_tables_that_keep_the_book_are_their_sums(self):
        for rnd, book in some_books(107, 60):
            many = rnd.randint(0, 5)
            table = plain.kept_table(book, many, rnd)
            at = dict(zip(unknowns(book[1], many), table))
            total = nought_table(book, many)
            for unknown, one in zip(free_at(book, many), basis(book, many)):
                total = table_sum(book, many, total, one, at[unknown])
            self.assertEqual(total, table)

    def test_many_unknowns(self):
        tables = basis((0, (2,), ()), 28)
        self.assertEqual(len(tables), 378)
        self.assertEqual([table.index(ONE) for table in tables], list(range(378)))


class Refusals(unittest.TestCase):
    def test_wrong_books(self):
        for call, more in ((lead_rows, ()), (free_at, (41,)), (free_formula, ()), (solved, (41, None)), (basis, (41,))):
            for place, book in WRONG_BOOKS:
                refuses_place(self, BadBook, place, call, book, *more)
            for book in ODD:
                refuses_place(self, BadBook, (), call, book, *more)

    def test_wrong_numbers_of_places(self):
        for many in WRONG_MANY:
            for book in (PAIRS, SEVEN, (0, (3, 3), ())):
                refuses_value(self, BadParameter, many, free_at, book, many)
                refuses_value(self, BadParameter, many, solved, book, many, None)
                refuses_value(self, BadParameter, many, basis, book, many)

    def test_too_great(self):
        # More than 400 unknowns, then members of more than six places, then the numbers.
        wide = (0, (1, 2), SEVEN[2])
        for book, many in ((PAIRS, 29), (wide, 28), ((0, (3,) * 8, ()), 40)):
            refuses_most(self, TooGreat, 400, free_at, book, many)
            refuses_most(self, TooGreat, 400, solved, book, many, None)
            refuses_most(self, TooGreat, 400, basis, book, many)
        for book, many in ((wide, 27), (SEVEN, 0), (EIGHT, 3)):
            refuses_most(self, TooGreat, 6, free_at, book, many)
            refuses_most(self, TooGreat, 6, solved, book, many, None)
            refuses_most(self, TooGreat, 6, basis, book, many)
            refuses_most(self, TooGreat, 6, lead_rows, book)
            refuses_most(self, TooGreat, 6, free_formula, book)

    def test_the_first_wrong_one_is_told(self):
        first_refused(self, solved, (PAIRS, 3, (ONE, ONE)),
                      {0: Placed((BadBook, (0, (1,)), ())), 1: -1, 2: Placed((BadTable, (ONE,), ()))})
        for call in (free_at, basis):
            first_refused(self, call, (PAIRS, 3), {0: Placed((BadBook, (0, (1,)), ())), 1: -1})


if __name__ == "__main__":
    unittest.main()
