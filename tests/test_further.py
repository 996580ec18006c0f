"""[5], [6], [15], [33], [34] Tables told further, by what they are stuck, and the judge."""

import unittest
from math import comb

from risingsays.errors import BadBook, BadParameter, BadTable, NoRow, TooGreat
from risingsays.further import gone_on, is_gone_on, stuck
from risingsays.going import endless, going
from risingsays.sayings import unknowns
from risingsays.tables import keeps, need_table, nought_table, table_part
from tests import plain
from tests.odd import (ODD, IntChild, Placed, Spiteful, TupleChild, first_refused, refusal, refuses_most, refuses_place,
                       refuses_value)
from tests.test_closing import SEVEN, full_book
from tests.test_going import some_books
from tests.test_tables import NO_FRACTIONS, WRONG_BOOKS, WRONG_MANY

ENDS_ALIKE = (0, (1,), ((3, ((1, 0, (2,)), (-1, 0, (0,)))),))
PAIRS = (0, (2,), ((3, ((1, 0, (1, 2)), (-1, 0, (0, 2)), (1, 0, (0, 1)))),))
SUMS = (0, (1,), ((2, ((1, 0, (1,)), (1, 0, (0,)))),))
ONE = (1, 1)
TWO = (2, 1)
NOUGHT = (0, 1)


def can_go_on(book, many, table, more):
    """By elimination: what is MADE on more places of unknowns on the first ones alone comes to nothing."""
    at = {unknown: plain.Fraction(*number) for unknown, number in zip(plain.unknowns(book[1], many), table)}
    for lead, row in plain.made_pivots(book, many + more).items():
        if all(place < many for place in lead[1]):
            if plain.value_in(book[0], sum((coef * at[unknown] for unknown, coef in row.items()), plain.Fraction(0))) != 0:
                return False
    return True


def some_tables(seed, turns, widths=(0, 1, 2, 3), most=3):
    """Books with tables: any one, one that keeps the book, one that goes on, one that goes on with a number bent."""
    for rnd, book in some_books(seed, turns, widths):
        many, more = rnd.randint(0, most), rnd.randint(0, 3)
        on = plain.kept_table(book, many + more, rnd)
        part = on[:len(plain.unknowns(book[1], many))]
        bent = list(part)
        if bent:
            bent[rnd.randrange(len(bent))] = plain.some_number(book[0], rnd)
        for table in (plain.some_table(book, many, rnd), plain.kept_table(book, many, rnd), part, tuple(bent)):
            yield rnd, book, many, table, more


class Stuck(unittest.TestCase):
    def test_the_example(self):
        table = (ONE, TWO)
        self.assertIsNone(stuck(ENDS_ALIKE, 2, table, 0))
        self.assertIsNone(stuck(ENDS_ALIKE, 2, table, 1))
        for more in (2, 3, 40):
            self.assertEqual(stuck(ENDS_ALIKE, 2, table, more), (0, (0, 1)))
            self.assertIsNone(stuck(ENDS_ALIKE, 2, (TWO, TWO), more))
        self.assertEqual(stuck(book=ENDS_ALIKE, many=2, table=table, more=2), (0, (0, 1)))
        for more in range(41):
            self.assertIsNone(stuck(ENDS_ALIKE, 1, (TWO,), more))
            self.assertIsNone(stuck(ENDS_ALIKE, 0, (), more))
        # Four places are asked with none more, by the closed list's second member.
        self.assertEqual(stuck(ENDS_ALIKE, 4, (ONE, TWO, ONE, ONE), 0), (0, (1, 2, 3)))
        self.assertEqual(stuck(ENDS_ALIKE, 3, (ONE, TWO, ONE), 0), None)
        self.assertEqual(stuck(ENDS_ALIKE, 3, (ONE, TWO, ONE), 1), (0, (0, 1, 2)))
        self.assertEqual(stuck(ENDS_ALIKE, 3, (ONE, ONE, TWO), 1), (1, (0, 1, 2)))

    def test_the_first_member_that_is_broken(self):
        found = {}
        for rnd, book, many, table, more in some_tables(271, 200):
            told = stuck(book, many, table, more)
            self.assertEqual(told, plain.broken_at(going(book, more), many, table), (book, many, table, more))
            found[told] = True
        self.assertGreater(len(found), 10)

    def test_a_table_that_does_not_keep_the_book_is_stuck_with_none_more(self):
        told = [0, 0]
        for rnd, book, many, table, _ in some_tables(272, 80):
            kept = plain.broken_at(book, many, table) is None
            told[kept] += 1
            self.assertIs(stuck(book, many, table, 0) is None, kept)
            if not kept:
                self.assertIsNotNone(stuck(book, many, table, rnd.randint(1, 40)))
        self.assertGreater(min(told), 50)

    def test_just_if_it_does_not_go_on(self):
        told = [0, 0]
        for _, book, many, table, more in some_tables(273, 80):
            goes = can_go_on(book, many, table, more)
            told[goes] += 1
            self.assertIs(stuck(book, many, table, more) is None, goes, (book, many, table, more))
        self.assertGreater(min(told), 50)

    def test_without_end(self):
        for _, book, many, table, _ in some_tables(274, 40):
            self.assertIs(stuck(book, many, table, 40) is None, keeps(endless(book), many, table))

    def test_more_than_there_are_places(self):
        # Just what goes on asks for no more than forty places in all.
        self.assertEqual(stuck(ENDS_ALIKE, 40, (ONE,) * 39 + (TWO,), 40), (0, (0, 39)))
        self.assertIsNone(stuck(ENDS_ALIKE, 40, (ONE,) * 40, 40))
        self.assertIsNone(stuck(PAIRS, 28, nought_table(PAIRS, 28), 40))

    def test_wrong_parameters(self):
        good = (ENDS_ALIKE, 2, (ONE, TWO), 1)
        for call, more in ((stuck, ()), (gone_on, ()), (is_gone_on, (None,))):
            for place, book in WRONG_BOOKS:
                refuses_place(self, BadBook, place, call, book, None, None, None, *more)
            for book in ODD:
                refuses_place(self, BadBook, (), call, book, *good[1:], *more)
            for many in WRONG_MANY:
                refuses_value(self, BadParameter, many, call, SEVEN, many, None, None, *more)
            for table in ODD + ((), (ONE,), (ONE,) * 3, [ONE, TWO], TupleChild((ONE, TWO))):
                refuses_place(self, BadTable, (), call, ENDS_ALIKE, 2, table, None, *more)
                refuses_place(self, BadTable, (), call, SEVEN, 2, table, 1, *more)
            for number in NO_FRACTIONS:
                refuses_place(self, BadTable, (0,), call, ENDS_ALIKE, 2, (number, number), None, *more)
                refuses_place(self, BadTable, (1,), call, ENDS_ALIKE, 2, (ONE, number), 1, *more)
            for wrong in WRONG_MANY:
                refuses_value(self, BadParameter, wrong, call, ENDS_ALIKE, 2, (ONE, TWO), wrong, *more)
                refuses_value(self, BadParameter, wrong, call, SEVEN, 2, (ONE, TWO), wrong, *more)
            refuses_most(self, TooGreat, 400, call, PAIRS, 29, None, None, *more)
            first_refused(self, call, good + more, {
                0: Placed((BadBook, (0, (1,), (None,)), (2, 0))), 1: IntChild(2), 2: Placed((BadTable, (ONE,), ())), 3: 41})


class GoneOn(unittest.TestCase):
    def check_gone_on(self, book, many, table, more):
        found = gone_on(book, many, table, more)
        self.assertIs(need_table(book, many + more, found), found)
        self.assertIsNone(plain.broken_at(book, many + more, found))
        self.assertEqual(table_part(book, many + more, found, tuple(range(many))), table)
        self.assertIs(is_gone_on(book, many, table, more, found), True)
        self.assertIs(is_gone_on(book=book, many=many, table=table, more=more, value=found), True)
        self.assertEqual(gone_on(book=book, many=many, table=table, more=more), found)
        return found

    def test_the_example(self):
        self.check_gone_on(ENDS_ALIKE, 2, (ONE, TWO), 0)
        self.assertEqual(self.check_gone_on(ENDS_ALIKE, 2, (ONE, TWO), 1), (ONE, TWO, ONE))
        refusal(self, NoRow, gone_on, ENDS_ALIKE, 2, (ONE, TWO), 2)
        self.assertEqual(self.check_gone_on(ENDS_ALIKE, 2, (TWO, TWO), 3), (TWO,) * 5)
        self.check_gone_on(ENDS_ALIKE, 0, (), 30)
        self.check_gone_on(PAIRS, 3, ((1, 1), (3, 1), (2, 1)), 4)
        refusal(self, NoRow, gone_on, PAIRS, 3, ((1, 1), (3, 1), (3, 1)), 0)
        refusal(self, NoRow, gone_on, PAIRS, 3, ((1, 1), (3, 1), (3, 1)), 4)

    def test_just_where_it_is_not_stuck(self):
        told = [0, 0]
        for _, book, many, table, more in some_tables(281, 100):
            goes = can_go_on(book, many, table, more)
            told[goes] += 1
            if goes:
                self.check_gone_on(book, many, table, more)
            else:
                refusal(self, NoRow, gone_on, book, many, table, more)
                self.assertIsNotNone(stuck(book, many, table, more))
        self.assertGreater(min(told), 60)

    def test_step_by_step(self):
        # What is asked for two places more lets the table go on one place after the other.
        for rnd, book in some_books(282, 40):
            many = rnd.randint(0, 2)
            table = plain.kept_table(endless(book), many, rnd)
            far = self.check_gone_on(book, many, table, 3)
            for less in range(4):
                part = table_part(book, many + 3, far, tuple(range(many + less)))
                self.assertIs(is_gone_on(book, many, table, less, part), True)
                self.check_gone_on(book, many + less, part, 3 - less)

    def test_many_places(self):
        self.assertEqual(self.check_gone_on(SUMS, 1, (NOUGHT,), 39), (NOUGHT,) * 40)
        refusal(self, NoRow, gone_on, SUMS, 1, (ONE,), 39)
        self.check_gone_on(SUMS, 1, (ONE,), 1)
        table = tuple(plain.number(plain.Fraction(one - other, 3)) for _, (one, other) in unknowns((2,), 10))
        self.check_gone_on(PAIRS, 10, table, 8)

    def test_bounds(self):
        # More places than forty, more unknowns, the members, then the maps.
        for call, more in ((gone_on, ()), (is_gone_on, (None,))):
            refuses_value(self, BadParameter, 39, call, SEVEN, 2, (ONE,) * 2, 39, *more)
            refuses_value(self, BadParameter, 1, call, SUMS, 40, (ONE,) * 40, 1, *more)
            refuses_value(self, BadParameter, 30, call, PAIRS, 11, (ONE,) * comb(11, 2), 30, *more)
            refuses_most(self, TooGreat, 400, call, PAIRS, 10, (ONE,) * comb(10, 2), 19, *more)
            wide = (0, (1, 1), SEVEN[2])
            self.assertEqual(len(nought_table(wide, 40)), 80)
            refuses_most(self, TooGreat, 400, call, (0, (1, 2), SEVEN[2]), 2, (ONE,) * 3, 26, *more)
        for call in (stuck, gone_on):
            refuses_most(self, TooGreat, 6, call, SEVEN, 40, (ONE,) * 40, 0)
            refuses_most(self, TooGreat, 6, call, SEVEN, 0, (), 0)
            refuses_most(self, TooGreat, 60, call, full_book((3,) * 6), 0, (), 0)
            # Behind what is asked rising maps into the table's places alone are counted.
            four = (0, (1,), ((4, ((1, 0, (3,)), (-1, 0, (2,)))),))
            self.assertIn(call(four, 20, (ONE,) * 20, 20), (None, (ONE,) * 40))
            refuses_most(self, TooGreat, 5000, call, four, 21, (ONE,) * 21, 0)
            refuses_most(self, TooGreat, 5000, call, four, 21, (ONE,) * 21, 19)
            # With places more the member loses some of its own.
            three = (0, (1,), ((4, ((1, 0, (0,)),)),))
            refuses_most(self, TooGreat, 5000, call, three, 21, (NOUGHT,) * 21, 0)
            self.assertIn(call(three, 21, (NOUGHT,) * 21, 1), (None, (NOUGHT,) * 22))
        # A table that is stuck is refused for its maps as well.
        refuses_most(self, TooGreat, 5000, gone_on, four, 21, (ONE,) * 20 + (TWO,), 0)

    def test_bounds_of_the_judge(self):
        # It needs no closed list; the maps into all places are counted, whatever the value is.
        self.assertIs(is_gone_on(SEVEN, 2, (ONE, TWO), 4, (ONE, TWO, ONE, ONE, ONE, ONE)), True)
        self.assertIs(is_gone_on(SEVEN, 2, (ONE, TWO), 4, (ONE, TWO, ONE, ONE, ONE, TWO)), False)
        self.assertIs(is_gone_on(full_book((3,) * 6), 0, (), 0, ()), True)
        four = (0, (1,), ((4, ((1, 0, (3,)), (-1, 0, (2,)))),))
        self.assertIs(is_gone_on(four, 1, (TWO,), 19, (TWO,) + (ONE,) * 19), True)
        self.assertIs(is_gone_on(four, 1, (TWO,), 19, (TWO, NOUGHT) + (ONE,) * 18), True)
        self.assertIs(is_gone_on(four, 1, (TWO,), 19, (TWO,) * 3 + (ONE,) * 17), False)
        for value in ODD + ((TWO,) * 21, (ONE,) * 21, ()):
            refuses_most(self, TooGreat, 5000, is_gone_on, four, 1, (TWO,), 20, value)
            refuses_most(self, TooGreat, 5000, is_gone_on, four, 21, (TWO,) * 21, 0, value)
        # More maps than are let, but for the book's own sayings; the closed list's members do not count.
        book = (0, (1,), ((2, ((1, 0, (1,)), (-1, 0, (0,)))), (3, ((1, 0, (2,)), (-1, 0, (1,))))))
        self.assertIs(is_gone_on(book, 1, (TWO,), 30, (TWO,) * 31), True)

    def test_values_of_odd_kinds(self):
        table = (ONE, TWO)
        right = (ONE, TWO, ONE)
        for value in ODD + ((), table, right[:1], right + (ONE,), list(right), TupleChild(right), (Spiteful(),) * 3):
            self.assertIs(is_gone_on(ENDS_ALIKE, 2, table, 1, value), False)
        for at in range(3):
            for number in NO_FRACTIONS + ((3, 1), (2, 2), [1, 1], Spiteful()):
                self.assertIs(is_gone_on(ENDS_ALIKE, 2, table, 1, right[:at] + (number,) + right[at + 1:]), False)
        self.assertIs(is_gone_on(ENDS_ALIKE, 2, table, 0, table), True)
        self.assertIs(is_gone_on(ENDS_ALIKE, 2, table, 0, (TWO, ONE)), False)
        self.assertIs(is_gone_on(ENDS_ALIKE, 3, (ONE, TWO, TWO), 0, (ONE, TWO, TWO)), False)

    def test_the_judge_by_chance(self):
        told = [0, 0]
        for rnd, book, many, table, more in some_tables(283, 80):
            for value in (plain.kept_table(book, many + more, rnd), plain.some_table(book, many + more, rnd)):
                value = table + value[len(table):] if rnd.random() < 0.8 else value
                right = value[:len(table)] == table and plain.broken_at(book, many + more, value) is None
                told[right] += 1
                self.assertIs(is_gone_on(book, many, table, more, value), right)
            if can_go_on(book, many, table, more):
                value = list(gone_on(book, many, table, more))
                if value:
                    value[rnd.randrange(len(value))] = plain.some_number(book[0], rnd)
                right = tuple(value[:len(table)]) == table and plain.broken_at(book, many + more, value) is None
                told[right] += 1
                self.assertIs(is_gone_on(book, many, table, more, tuple(value)), right)
        self.assertGreater(min(told), 80)


if __name__ == "__main__":
    unittest.main()
