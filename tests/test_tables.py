"""[5], [15], [16] Tables."""

import unittest
from fractions import Fraction
from itertools import combinations, product
from math import comb

from risingsays.errors import BadBook, BadParameter, BadTable, BadTerms, NoRow, TooGreat
from risingsays.sayings import mirrored, unknowns
from risingsays.tables import first_broken, keeps, need_table, nought_table, table_part, table_sum, worth
from tests import plain
from tests.odd import (ODD, IntChild, Placed, Spiteful, TupleChild, first_refused, refusal, refuses_most,
                       refuses_place, refuses_value)

PAIRS = (0, (2,), ((3, ((1, 0, (1, 2)), (-1, 0, (0, 2)), (1, 0, (0, 1)))),))
SUMS = (0, (1,), ((2, ((1, 0, (1,)), (1, 0, (0,)))),))
ONE = (1, 1)
WRONG_BOOKS = (((), None), ((), []), ((0,), (4, (1,), ())), ((0,), (True, (1,), ())), ((1,), (0, (), ())),
               ((1, 0), (0, (4,), ())), ((2,), (0, (1,), None)), ((2,), (0, (1,), SUMS[2] * 61)),
               ((2, 1, 1, 0), (0, (1,), SUMS[2] + ((1, ((1, 0, (1,)),)),))))
WRONG_MANY = ODD + (-1, 41, 10 ** 30, (), (3,), IntChild(3))
# For one number of the field 0, and of the field 3.
NO_FRACTIONS = ODD + (1, (), (1,), (1, 0), (0, 2), (2, 4), (1, -1), (1, 1, 1), [1, 1], (True, 1), (1, True),
                      (1.0, 1), (Spiteful(), 1), TupleChild((1, 1)))
NO_THIRDS = ODD + (1, (), (3, 1), (-1, 1), (1, 2), (2, 2), (0, 3), [1, 1], (1,), (True, 1), (4, 1))


class NeedTable(unittest.TestCase):
    def test_what_is_let_is_returned_as_it_was(self):
        table = ((0, 1), (-7, 3), (10 ** 90, 1))
        self.assertIs(need_table(PAIRS, 3, table), table)
        self.assertEqual(need_table(book=PAIRS, many=0, table=()), ())
        self.assertEqual(need_table(PAIRS, 1, ()), ())
        self.assertEqual(need_table((2, (0, 1), ()), 0, ((1, 1),)), ((1, 1),))
        self.assertEqual(len(need_table((997, (2,), ()), 28, ((996, 1),) * 378)), 378)
        self.assertEqual(len(need_table((0, (2, 1, 1, 1, 1), ()), 25, (ONE,) * 400)), 400)

    def test_wrong_tables(self):
        for table in ODD + (0, (), (ONE,), (ONE,) * 2, (ONE,) * 4, [ONE] * 3, (None,) * 4, TupleChild((ONE,) * 3)):
            refuses_place(self, BadTable, (), need_table, PAIRS, 3, table)
        for number in NO_FRACTIONS:
            for at in range(3):
                refuses_place(self, BadTable, (at,), need_table, PAIRS, 3, (ONE,) * at + (number,) * (3 - at))
        for number in NO_THIRDS:
            refuses_place(self, BadTable, (1,), need_table, (3, (1,), ()), 2, (ONE, number))
        refuses_place(self, BadTable, (), need_table, PAIRS, 0, (ONE,))

    def test_wrong_books_and_numbers_of_places(self):
        for place, book in WRONG_BOOKS:
            for call, more in ((need_table, (None,)), (worth, (None, None)), (first_broken, (None,)), (keeps, (None,)),
                               (nought_table, ()), (table_sum, (None, None, None)), (table_part, (None, None))):
                refuses_place(self, BadBook, place, call, book, 41, *more)
                refuses_place(self, BadBook, place, call, book, 3, *more)
        for many in WRONG_MANY:
            for call, more in ((need_table, (None,)), (worth, (None, None)), (first_broken, (None,)), (keeps, (None,)),
                               (nought_table, ()), (table_sum, (None, None, None)), (table_part, (None, None))):
                refuses_value(self, BadParameter, many, call, (0, (3, 3), ()), many, *more)

    def test_too_many_unknowns_ahead_of_the_table(self):
        for kinds, many in (((2,), 29), ((3,), 15), ((2, 1, 1, 1, 1, 0), 25), ((3,) * 8, 40)):
            book = (0, kinds, ())
            count = sum(comb(many, arity) for arity in kinds)
            for table in (None, (), (ONE,) * min(count, 1000)):
                refuses_most(self, TooGreat, 400, need_table, book, many, table)
                refuses_most(self, TooGreat, 400, worth, book, many, table, None)
                refuses_most(self, TooGreat, 400, first_broken, book, many, table)
                refuses_most(self, TooGreat, 400, keeps, book, many, table)
                refuses_most(self, TooGreat, 400, table_sum, book, many, table, None, None)
                refuses_most(self, TooGreat, 400, table_part, book, many, table, None)
            refuses_most(self, TooGreat, 400, nought_table, book, many)

    def test_each_call_refuses_wrong_tables(self):
        for call, more in ((need_table, ()), (worth, (None,)), (first_broken, ()), (keeps, ()), (table_sum, (None, None)),
                           (table_part, (None,))):
            for table in ODD + ((), (ONE,) * 2):
                refuses_place(self, BadTable, (), call, PAIRS, 3, table, *more)
            for number in NO_FRACTIONS:
                refuses_place(self, BadTable, (2,), call, PAIRS, 3, (ONE, ONE, number), *more)
            for number in NO_THIRDS:
                refuses_place(self, BadTable, (0,), call, (3, (1,), ()), 2, (number, None), *more)


class Worth(unittest.TestCase):
    def test_ordinary(self):
        table = ((1, 2), (3, 1), (-2, 3))
        self.assertEqual(worth(PAIRS, 3, table, ((6, 0, (1, 2)), (-1, 0, (0, 2)), (1, 0, (0, 1)))), (-13, 2))
        self.assertEqual(worth(PAIRS, 3, table, ()), (0, 1))
        self.assertEqual(worth(book=PAIRS, many=3, table=table, terms=((4, 0, (0, 1)),)), (2, 1))
        self.assertEqual(worth((5, (1,), ()), 2, ((3, 1), (4, 1)), ((4, 0, (1,)), (3, 0, (0,)))), (0, 1))
        self.assertEqual(worth((0, (0,), ()), 0, ((1, 3),), ((-3, 0, ()),)), (-1, 1))

    def test_sums(self):
        rnd = plain.dice(11)
        for field, kinds in product((0, 2, 3, 997), plain.KINDS_LOTS):
            for many in range(5):
                book = (field, kinds, ())
                table = plain.some_table(book, many, rnd)
                terms = plain.some_terms(field, kinds, many, rnd)
                self.assertEqual(worth(book, many, table, terms),
                                 plain.number(plain.comes_to(book, table, many, terms)))

    def test_wrong_terms(self):
        table = (ONE,) * 3
        for terms in ODD + (0, [(1, 0, (0, 1))]):
            refuses_place(self, BadTerms, (), worth, PAIRS, 3, table, terms)
        for term in ODD + ((0, 0, (0, 1)), (1, 1, (0, 1)), (1, 0, (0,)), (1, 0, (1, 3)), (1, 0, [0, 1])):
            refuses_place(self, BadTerms, (0,), worth, PAIRS, 3, table, (term,))
        refuses_place(self, BadTerms, (1,), worth, PAIRS, 3, table, ((1, 0, (0, 1)), (1, 0, (0, 2))))
        refuses_place(self, BadTerms, (0,), worth, (3, (1,), ()), 1, (ONE,), ((3, 0, (0,)),))

    def test_the_first_wrong_one_is_told(self):
        first_refused(self, worth, (PAIRS, 3, (ONE,) * 3, ()),
                      {0: Placed((BadBook, (0, (1,)), ())), 1: -1, 2: Placed((BadTable, (ONE,), ())),
                       3: Placed((BadTerms, [], ()))})


class Broken(unittest.TestCase):
    def test_the_examples(self):
        self.assertIs(keeps(PAIRS, 3, ((1, 1), (3, 1), (2, 1))), True)
        table = ((1, 1), (3, 1), (2, 1), (6, 1), (5, 1), (4, 1))
        self.assertEqual(first_broken(PAIRS, 4, table), (0, (0, 2, 3)))
        self.assertIs(keeps(PAIRS, 4, table), False)
        self.assertIs(keeps(PAIRS, 4, table[:5] + ((3, 1),)), True)
        refusal(self, NoRow, first_broken, PAIRS, 4, table[:5] + ((3, 1),))

    def test_the_least_saying_and_the_least_map(self):
        alike = (2, ((1, 0, (1,)), (-1, 0, (0,))))
        third = (3, ((1, 0, (2,)),))
        book = (0, (1,), (third, alike, third))
        # At (0, 1, 2) ahead of (0, 1, 3): the map counts, not the unknown where the table breaks.
        self.assertEqual(first_broken(book, 4, ((0, 1), (0, 1), (1, 1), (1, 1))), (0, (0, 1, 2)))
        self.assertEqual(first_broken(book, 4, ((0, 1), (0, 1), (0, 1), (1, 1))), (0, (0, 1, 3)))
        self.assertEqual(first_broken(book, 4, ((0, 1), (1, 1), (0, 1), (0, 1))), (1, (0, 1)))
        self.assertEqual(first_broken(book=book, many=2, table=((0, 1), (1, 1))), (1, (0, 1)))
        # (0, 3) comes ahead of (1, 2) as Python compares.
        self.assertEqual(first_broken((0, (2,), ((2, ((1, 0, (0, 1)),)),)), 4,
                                      ((0, 1), (0, 1), (1, 1), (1, 1), (0, 1), (0, 1))), (0, (0, 3)))

    def test_tables_by_chance(self):
        rnd = plain.dice(12)
        kept = 0
        for _ in range(300):
            field = rnd.choice((0, 0, 2, 3, 997))
            book = plain.some_book(field, rnd.choice(plain.KINDS_LOTS), rnd, rnd.randint(0, 3))
            many = rnd.randint(0, 5)
            table = list(plain.kept_table(book, many, rnd))
            for _ in range(rnd.randint(0, 2)):
                if table:
                    table[rnd.randrange(len(table))] = plain.some_number(field, rnd)
            table = tuple(table)
            found = plain.broken_at(book, many, table)
            if found is None:
                kept += 1
                self.assertIs(keeps(book, many, table), True)
                refusal(self, NoRow, first_broken, book, many, table)
            else:
                self.assertIs(keeps(book, many, table), False)
                self.assertEqual(first_broken(book, many, table), found)
        self.assertGreater(kept, 50)
        self.assertLess(kept, 250)

    def test_fewer_places_than_the_width(self):
        rnd = plain.dice(13)
        for field, kinds in product((0, 2), plain.KINDS_LOTS):
            saying = plain.some_saying(field, kinds, rnd, (4, 5, 6))
            book = (field, kinds, (saying,))
            for many in range(4):
                table = plain.some_table(book, many, rnd)
                self.assertIs(keeps(book, many, table), True)
                refusal(self, NoRow, first_broken, book, many, table)

    def test_width_nought_says_it_of_every_number_of_places(self):
        book = (0, (0, 1), ((0, ((1, 0, ()),)),))
        for many in range(41):
            rest = (ONE,) * many
            self.assertIs(keeps(book, many, ((0, 1),) + rest), True)
            self.assertEqual(first_broken(book, many, (ONE,) + rest), (0, ()))

    def test_no_sayings(self):
        self.assertIs(keeps((0, (1,), ()), 40, (ONE,) * 40), True)
        refusal(self, NoRow, first_broken, (2, (0,), ()), 0, (ONE,))

    def test_modulo_a_prime_and_with_fractions(self):
        book = (5, (1,), ((2, ((2, 0, (1,)), (4, 0, (0,)))),))
        self.assertIs(keeps(book, 2, ((3, 1), (4, 1))), True)
        self.assertIs(keeps(book, 2, ((3, 1), (3, 1))), False)
        book = (0, (1,), ((2, ((2, 0, (1,)), (-3, 0, (0,)))),))
        self.assertIs(keeps(book, 2, ((1, 3), (1, 2))), True)
        self.assertIs(keeps(book, 2, ((1, 3), (10 ** 40 + 1, 2 * 10 ** 40))), False)

    def test_the_bound_on_maps(self):
        third = (3, ((1, 0, (2,)), (-1, 0, (0,))))
        book = (0, (1,), (third,))
        self.assertEqual(comb(32, 3), 4960)
        self.assertIs(keeps(book, 32, (ONE,) * 32), True)
        self.assertEqual(first_broken(book, 32, (ONE,) * 31 + ((2, 1),)), (0, (0, 1, 31)))
        self.assertEqual(comb(28, 2), 378)
        pairs = (0, (2,), PAIRS[2])
        self.assertIs(keeps(pairs, 28, nought_table(pairs, 28)), True)
        for many, sayings in ((33, (third,)), (40, ((2, ((1, 0, (1,)),)), third)), (15, ((6, ((1, 0, (5,)),)),))):
            self.assertGreater(max(comb(many, width) for width, _ in sayings), 5000)
            for table in ((ONE,) * many, ((0, 1),) * many):
                refuses_most(self, TooGreat, 5000, first_broken, (0, (1,), sayings), many, table)
                refuses_most(self, TooGreat, 5000, keeps, (0, (1,), sayings), many, table)
            for call in (first_broken, keeps):
                refuses_place(self, BadTable, (), call, (0, (1,), sayings), many, (ONE,))
                refuses_place(self, BadTable, (1,), call, (0, (1,), sayings), many, (ONE, None) + (ONE,) * (many - 2))
        # Behind the table, and behind too many unknowns; the other calls have no such bound.
        refuses_most(self, TooGreat, 400, keeps, (0, (2,), ((3, ((1, 0, (0, 1)),)),)), 33, None)
        self.assertEqual(len(need_table((0, (1,), (third,)), 40, (ONE,) * 40)), 40)
        self.assertEqual(worth((0, (1,), (third,)), 40, (ONE,) * 40, ((1, 0, (39,)),)), ONE)

    def test_the_first_wrong_one_is_told(self):
        for call in (first_broken, keeps, need_table):
            first_refused(self, call, (PAIRS, 3, (ONE,) * 3),
                          {0: Placed((BadBook, (0, (1,), 5), (2,))), 1: 41,
                           2: Placed((BadTable, (ONE, (2, 2), (2, 2)), (1,)))})

    def test_a_saying_is_kept_by_the_parts_on_its_width(self):
        rnd = plain.dice(14)
        for field, kinds in product((0, 2, 3), plain.KINDS_LOTS):
            book = plain.some_book(field, kinds, rnd, 1, (1, 2, 3))
            width = book[2][0][0]
            for table in (plain.some_table(book, 4, rnd), plain.kept_table(book, 4, rnd)):
                parts = [keeps(book, width, table_part(book, 4, table, places)) for places in combinations(range(4), width)]
                self.assertIs(keeps(book, 4, table), all(parts))

    def test_the_mirrored_saying_is_kept_by_the_mirrored_table(self):
        rnd = plain.dice(15)
        for field, kinds in product((0, 2, 3), plain.KINDS_LOTS):
            saying = plain.some_saying(field, kinds, rnd, (2, 3))
            book = (field, kinds, (saying,))
            other = (field, kinds, (mirrored(field, kinds, saying),))
            for table in (plain.some_table(book, 4, rnd), plain.kept_table(book, 4, rnd)):
                at = dict(zip(unknowns(kinds, 4), table))
                turned = tuple(at[(kind, tuple(sorted(3 - place for place in places)))]
                               for kind, places in unknowns(kinds, 4))
                self.assertIs(keeps(other, 4, table), keeps(book, 4, turned))


class Made(unittest.TestCase):
    def test_noughts(self):
        self.assertEqual(nought_table(PAIRS, 3), ((0, 1),) * 3)
        self.assertEqual(nought_table(PAIRS, 0), ())
        self.assertEqual(nought_table(book=(997, (0, 2), ()), many=28), ((0, 1),) * 379)
        self.assertEqual(nought_table((0, (2, 1, 1, 1, 1), ()), 25), ((0, 1),) * 400)
        refuses_most(self, TooGreat, 400, nought_table, (0, (2,), ()), 29)
        first_refused(self, nought_table, (PAIRS, 3), {0: Placed((BadBook, 0, ())), 1: 3.0})

    def test_sums(self):
        self.assertEqual(table_sum((0, (1,), ()), 2, ((1, 2), (0, 1)), ((1, 3), (-3, 1)), (1, 2)), ((2, 3), (-3, 2)))
        self.assertEqual(table_sum((2, (1,), ()), 2, ((1, 1), (0, 1)), ((1, 1), (1, 1)), (1, 1)), ((0, 1), (1, 1)))
        self.assertEqual(table_sum(book=SUMS, many=0, table=(), other=(), factor=(5, 7)), ())
        rnd = plain.dice(16)
        for field, kinds in product((0, 3, 997), plain.KINDS_LOTS):
            book = plain.some_book(field, kinds, rnd, 2)
            one, other = plain.kept_table(book, 4, rnd), plain.kept_table(book, 4, rnd)
            factor = plain.some_number(field, rnd)
            there = table_sum(book, 4, one, other, factor)
            self.assertEqual(there, tuple(
                plain.number(plain.value_in(field, Fraction(*a) + Fraction(*factor) * Fraction(*b)))
                for a, b in zip(one, other)))
            self.assertIs(keeps(book, 4, there), True)
            self.assertIs(keeps(book, 4, nought_table(book, 4)), True)

    def test_wrong_sums(self):
        table = (ONE,) * 2
        for other in ODD + ((), (ONE,), (ONE,) * 3, [ONE] * 2):
            refuses_place(self, BadTable, (), table_sum, SUMS, 2, table, other, None)
        for number in NO_FRACTIONS:
            refuses_place(self, BadTable, (1,), table_sum, SUMS, 2, table, (ONE, number), None)
            refuses_value(self, BadParameter, number, table_sum, SUMS, 2, table, table, number)
        for number in NO_THIRDS:
            refuses_place(self, BadTable, (0,), table_sum, (3, (1,), ()), 2, table, (number, None), None)
            refuses_value(self, BadParameter, number, table_sum, (3, (1,), ()), 2, table, table, number)
        first_refused(self, table_sum, (SUMS, 2, table, table, (1, 2)),
                      {0: Placed((BadBook, (0,), ())), 1: None, 2: Placed((BadTable, (None,) * 2, (0,))),
                       3: Placed((BadTable, (), ())), 4: (3, 6)})

    def test_parts(self):
        table = ((1, 1), (3, 1), (2, 1), (6, 1), (5, 1), (3, 1))
        self.assertEqual(table_part(PAIRS, 4, table, (0, 2, 3)), ((3, 1), (6, 1), (3, 1)))
        self.assertEqual(table_part(PAIRS, 4, table, (0, 1, 2, 3)), table)
        self.assertEqual(table_part(PAIRS, 4, table, (2,)), ())
        self.assertEqual(table_part(book=PAIRS, many=4, table=table, places=()), ())
        self.assertEqual(table_part((0, (0, 1), ()), 1, ((7, 1), (8, 1)), ()), ((7, 1),))
        rnd = plain.dice(17)
        for field, kinds in product((0, 3), plain.KINDS_LOTS):
            book = plain.some_book(field, kinds, rnd, 2)
            table = plain.kept_table(book, 5, rnd)
            at = dict(zip(plain.unknowns(kinds, 5), table))
            for size in range(6):
                for places in combinations(range(5), size):
                    part = table_part(book, 5, table, places)
                    self.assertEqual(part, tuple(at[(kind, tuple(places[spot] for spot in spots))]
                                                 for kind, spots in plain.unknowns(kinds, size)))
                    self.assertIs(keeps(book, size, part), True)

    def test_the_part_of_a_part(self):
        rnd = plain.dice(18)
        for kinds in plain.KINDS_LOTS:
            book = (0, kinds, ())
            table = plain.some_table(book, 5, rnd)
            for first in combinations(range(5), 3):
                for second in combinations(range(3), 2):
                    both = tuple(first[at] for at in second)
                    self.assertEqual(table_part(book, 3, table_part(book, 5, table, first), second),
                                     table_part(book, 5, table, both))

    def test_wrong_places(self):
        table = (ONE,) * 3
        for places in ODD + (0, (3,), (-1,), (0, 0), (1, 0), [0], (True,), (0.0,), (0, 1, 2, 3), (None,), (IntChild(1),),
                             TupleChild((0,)), (Spiteful(),), (10 ** 30,)):
            refuses_value(self, BadParameter, places, table_part, PAIRS, 3, table, places)
        first_refused(self, table_part, (PAIRS, 3, table, (0,)),
                      {0: Placed((BadBook, (0, (9,), ()), (1, 0))), 1: (), 2: Placed((BadTable, table * 2, ())), 3: (3,)})


if __name__ == "__main__":
    unittest.main()
