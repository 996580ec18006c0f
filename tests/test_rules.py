"""[5], [6], [8], [36], [38] Kinds by rules."""

import unittest

from risingsays.closing import closed_book
from risingsays.errors import BadBook, BadParameter, BadTable, BadTerms, TooGreat
from risingsays.hiding import seen_book
from risingsays.rules import by_rules, rule_book
from risingsays.sayings import need_book
from risingsays.tables import keeps, need_table
from tests import plain
from tests.odd import (ODD, IntChild, Placed, Spiteful, TupleChild, first_refused, refuses_most, refuses_place,
                       refuses_value)
from tests.test_closing import SEVEN, full_book
from tests.test_going import some_books
from tests.test_tables import NO_FRACTIONS, WRONG_BOOKS, WRONG_MANY

FREE = (0, (1,), ())
PAIRS = (0, (2,), ((3, ((1, 0, (1, 2)), (-1, 0, (0, 2)), (1, 0, (0, 1)))),))
SUMS = (0, (1,), ((2, ((1, 0, (1,)), (1, 0, (0,)))),))
DIFFERENCE = (2, ((1, 0, (1,)), (-1, 0, (0,))))
SAME = (1, ((1, 0, (0,)),))
ONE = (1, 1)


def some_rules(field, kinds, rnd, count, most=3):
    """Rules, some of them of nothing, none of them whole but by chance."""
    found = []
    for _ in range(count):
        arity = rnd.randint(0, 3)
        found.append((arity, plain.some_terms(field, kinds, arity, rnd, rnd.choice((0, 1, 2, most)), 6)))
    return tuple(found)


def some_cases(seed, turns):
    for rnd, book in some_books(seed, turns, (0, 1, 2)):
        yield rnd, book, some_rules(book[0], book[1], rnd, rnd.choice((1, 1, 2, 3)))


def with_rules(book, rules):
    """The book of the old kinds and the new ones behind them."""
    field, kinds, sayings = book
    told = []
    for at, (arity, terms) in enumerate(rules):
        row = {(len(kinds) + at, tuple(range(arity))): plain.Fraction(1)}
        told.append((arity, plain.terms_of(plain.add_rows(field, row, plain.row_of(terms), -1))))
    return (field, kinds + tuple(arity for arity, _ in rules), sayings + tuple(told))


def plainly_told(book, rules, many, table):
    """[38] The table of the new kinds, number by number."""
    found = []
    for at, places in plain.unknowns(tuple(arity for arity, _ in rules), many):
        terms = plain.terms_of(plain.carry_row(plain.row_of(rules[at][1]), places))
        found.append(plain.number(plain.comes_to(book, table, many, terms)))
    return tuple(found)


def can_be_told(book, rules, many, table):
    """Whether some table that keeps the book tells it: elimination of the old unknowns."""
    longer = with_rules(book, rules)
    count = len(book[1])
    pivots = plain.made_pivots(longer, many, plain.key_with(tuple(range(count))))
    at = {(kind + count, places): plain.Fraction(*number) for (kind, places), number
          in zip(plain.unknowns(longer[1][count:], many), table)}
    return all(plain.value_in(book[0], sum(coef * at[unknown] for unknown, coef in row.items())) == 0
               for lead, row in pivots.items() if lead[0] >= count)


class RuleBook(unittest.TestCase):
    def test_the_example(self):
        self.assertEqual(rule_book(FREE, (DIFFERENCE,)), PAIRS)
        self.assertEqual(rule_book(book=FREE, rules=(DIFFERENCE,)), PAIRS)

    def test_ordinary(self):
        self.assertEqual(rule_book(SUMS, (SAME,)), closed_book(SUMS))
        self.assertEqual(rule_book(SUMS, ((0, ()),)), (0, (0,), ((0, ((1, 0, ()),)),)))
        self.assertEqual(rule_book(FREE, ((3, ()),)), (0, (3,), ((3, ((1, 0, (0, 1, 2)),)),)))
        # A number and its double; a multiple is another number, not the same one made whole.
        self.assertEqual(rule_book(FREE, (SAME, (1, ((2, 0, (0,)),)))), (0, (1, 1), ((1, ((1, 1, (0,)), (-2, 0, (0,)))),)))
        self.assertEqual(rule_book((5, (1,), ()), (SAME, (1, ((2, 0, (0,)),)))),
                         (5, (1, 1), ((1, ((1, 1, (0,)), (3, 0, (0,)))),)))
        # A number of no place that all places have.
        self.assertEqual(rule_book((0, (0,), ()), ((1, ((1, 0, ()),)),)),
                         (0, (1,), ((2, ((1, 0, (1,)), (-1, 0, (0,)))),)))

    def test_by_elimination(self):
        told = refused = 0
        for _, book, rules in some_cases(291, 120):
            longer = with_rules(book, rules)
            count = len(book[1])
            old = tuple(range(count))
            members = plain.closed_list(longer, 4, old)[0]
            try:
                found = rule_book(book, rules)
            except TooGreat:
                refused += 1
                self.assertTrue(any(width > 6 for width, _ in plain.closed_list(longer, 8, old)[0]))
                continue
            self.assertIs(need_book(found), found)
            self.assertEqual(found[:2], (book[0], tuple(arity for arity, _ in rules)))
            left = tuple((width, tuple((coef, kind - count, places) for coef, kind, places in terms))
                         for width, terms in members if all(kind >= count for _, kind, _ in terms))
            self.assertEqual(tuple(saying for saying in found[2] if saying[0] <= 4), left, (book, rules))
            self.assertEqual(found, closed_book(found))
            told += len(left) > 0
        self.assertGreater(told, 60)
        self.assertLess(refused, 20)

    def test_it_is_what_is_seen(self):
        for _, book, rules in some_cases(292, 60):
            longer = with_rules(book, rules)
            self.assertEqual(rule_book(book, rules), seen_book(longer, tuple(range(len(book[1])))))

    def test_each_number_as_it_is(self):
        # The rules that tell each kind itself tell the closed book.
        for _, book, _ in some_cases(293, 60):
            rules = tuple((arity, ((1, kind, tuple(range(arity))),)) for kind, arity in enumerate(book[1]))
            self.assertEqual(rule_book(book, rules), closed_book(book))

    def test_rules_behind_rules(self):
        told = 0
        for rnd, book, rules in some_cases(294, 100):
            field = book[0]
            arities = tuple(arity for arity, _ in rules)
            more = some_rules(field, arities, rnd, rnd.choice((1, 2)))
            at_once = []
            for arity, terms in more:
                row = {}
                for coef, at, places in terms:
                    row = plain.add_rows(field, row, plain.carry_row(plain.row_of(rules[at][1]), places), coef)
                at_once.append((arity, plain.terms_of(row)))
            at_once = tuple(at_once)
            found = rule_book(rule_book(book, rules), more)
            self.assertEqual(found, rule_book(book, at_once), (book, rules, more))
            told += len(found[2]) > 0
            many = rnd.randint(0, 3)
            table = plain.some_table(book, many, rnd)
            self.assertEqual(by_rules(rule_book(book, rules), more, many, by_rules(book, rules, many, table)),
                             by_rules(book, at_once, many, table))
        self.assertGreater(told, 40)

    def test_books_that_say_the_same(self):
        for rnd, book, rules in some_cases(295, 60):
            self.assertEqual(rule_book(plain.told_otherwise(book, rnd), rules), rule_book(book, rules))
            self.assertEqual(rule_book(closed_book(book), rules), rule_book(book, rules))

    def test_eight_kinds_and_eight_rules(self):
        kinds = (1,) * 8
        rnd = plain.dice(296)
        for field in (0, 2, 997):
            book = (field, kinds, plain.some_book(field, kinds, rnd, 3, (1, 2), 5)[2])
            rules = tuple((1, ((1, kind, (0,)),)) for kind in range(8))
            self.assertEqual(rule_book(book, rules), closed_book(book))
            turned = rules[::-1]
            again = rule_book(rule_book(book, turned), turned)
            self.assertEqual(again, closed_book(book))
            # More than sixty sayings in all.
            sixty = (field, kinds, (book[2] * 20)[:60])
            self.assertEqual(rule_book(sixty, rules), closed_book(book))

    def test_too_great(self):
        refuses_most(self, TooGreat, 6, rule_book, SEVEN, (SAME,))
        # Also if nothing of it is seen.
        refuses_most(self, TooGreat, 6, rule_book, SEVEN, ((0, ()),))
        kinds = (3,) * 6
        same = tuple((3, ((1, kind, (0, 1, 2)),)) for kind in range(6))
        refuses_most(self, TooGreat, 60, rule_book, full_book(kinds), same)
        self.assertEqual(len(rule_book(full_book(kinds), same[:5])[2]), 60)
        wide = full_book(kinds + (1,), ((6, ((1, 6, (5,)), (996, 6, (0,)))),))
        refuses_most(self, TooGreat, 6, rule_book, wide, same)

    def test_wrong_parameters(self):
        table = (ONE, ONE)
        for call, more in ((rule_book, ()), (by_rules, (2, table))):
            for place, book in WRONG_BOOKS:
                refuses_place(self, BadBook, place, call, book, None, *more)
                refuses_place(self, BadBook, place, call, book, (SAME,), *more)
            for book in ODD:
                refuses_place(self, BadBook, (), call, book, (SAME,), *more)
            for rules in ODD + ((), (SAME,) * 9, (None,) * 9, [SAME], TupleChild((SAME,)), 0, SAME[0]):
                refuses_value(self, BadParameter, rules, call, SUMS, rules, *more)
                refuses_value(self, BadParameter, rules, call, SEVEN, rules, *more)
            wrong = ODD + ((), (1,), (1, (), ()), [1, ()], TupleChild((1, ())), (4, ()), (-1, ()), (True, ()), (IntChild(1), ()),
                           (None, ()), (1, None), (1, [1, 0, (0,)]), (1, 0), (1, TupleChild()), (1, ((1, 0, (1,)),)),
                           (1, ((0, 0, (0,)),)), (1, ((1, 1, (0,)),)), (1, ((1, 0, ()),)), (2, ((1, 0, (0,)), (1, 0, (1,)))),
                           (1, ((1, 0, (0,)),) * 2), (0, ((1, 0, (0,)),)), (Spiteful(), ()), (1, Spiteful()),
                           (1, (Spiteful(),)), (1, ((1, 0, (Spiteful(),)),)))
            for rule in wrong:
                refuses_place(self, BadTerms, (0,), call, SUMS, (rule, rule), *more)
                refuses_place(self, BadTerms, (1,), call, SUMS, (SAME, rule, None), *more)
                refuses_place(self, BadTerms, (7,), call, SEVEN, (SAME,) * 7 + (rule,), *more)
            # Terms of the book's field.
            refuses_place(self, BadTerms, (0,), call, (3, (1,), ()), ((1, ((3, 0, (0,)),)),), *more)
            bad = {0: Placed((BadBook, (0, (1,), (None,)), (2, 0))), 1: Placed((BadTerms, (SAME, None), (1,)))}
            if more:
                bad.update({2: 41, 3: Placed((BadTable, (ONE,), ()))})
            first_refused(self, call, (SUMS, (SAME,)) + more, bad)
            bad[1] = ()
            first_refused(self, call, (SUMS, (SAME,)) + more, bad)


class ByRules(unittest.TestCase):
    def test_ordinary(self):
        table = ((2, 1), (5, 1), (-1, 3))
        self.assertEqual(by_rules(FREE, (DIFFERENCE,), 3, table), ((3, 1), (-7, 3), (-16, 3)))
        self.assertEqual(by_rules(book=FREE, rules=(SAME, DIFFERENCE), many=2, table=table[:2]), ((2, 1), (5, 1), (3, 1)))
        self.assertEqual(by_rules(FREE, ((0, ()), (2, ())), 2, table[:2]), ((0, 1), (0, 1)))
        self.assertEqual(by_rules(FREE, (DIFFERENCE,), 1, table[:1]), ())
        self.assertEqual(by_rules(FREE, (DIFFERENCE,), 0, ()), ())
        self.assertEqual(by_rules(FREE, ((1, ((6, 0, (0,)),)),), 3, table), ((12, 1), (30, 1), (-2, 1)))
        self.assertEqual(by_rules((7, (1,), ()), ((1, ((6, 0, (0,)),)),), 2, ((2, 1), (5, 1))), ((5, 1), (2, 1)))
        # Whether the table keeps the book does not matter, nor whether the book has a closed list.
        self.assertEqual(by_rules(SUMS, (SAME,), 3, table), table)
        self.assertEqual(by_rules(SEVEN, (SAME,), 3, table), table)

    def test_number_by_number(self):
        for rnd, book, rules in some_cases(301, 100):
            many = rnd.randint(0, 4)
            table = plain.some_table(book, many, rnd)
            found = by_rules(book, rules, many, table)
            self.assertEqual(found, plainly_told(book, rules, many, table), (book, rules, many, table))
            self.assertIs(need_table((book[0], tuple(arity for arity, _ in rules), ()), many, found), found)

    def test_tables_that_keep_it_are_just_those_that_are_told(self):
        told = [0, 0]
        for rnd, book, rules in some_cases(302, 80):
            try:
                found = rule_book(book, rules)
            except TooGreat:
                continue
            many = rnd.randint(0, 4)
            self.assertTrue(keeps(found, many, by_rules(book, rules, many, plain.kept_table(book, many, rnd))))
            for table in (plain.some_table(found, many, rnd), plain.kept_table(found, many, rnd),
                          by_rules(book, rules, many, plain.some_table(book, many, rnd))):
                can = can_be_told(book, rules, many, table)
                told[can] += 1
                self.assertIs(keeps(found, many, table), can, (book, rules, many, table))
        self.assertGreater(min(told), 30)

    def test_wrong_parameters(self):
        for many in WRONG_MANY:
            refuses_value(self, BadParameter, many, by_rules, SUMS, (SAME,), many, None)
        for table in ODD + ((), (ONE,), (ONE,) * 3, [ONE, ONE], TupleChild((ONE, ONE))):
            refuses_place(self, BadTable, (), by_rules, SUMS, (SAME,), 2, table)
        for number in NO_FRACTIONS:
            refuses_place(self, BadTable, (0,), by_rules, SUMS, (SAME,), 2, (number, number))
            refuses_place(self, BadTable, (1,), by_rules, SUMS, (SAME,), 2, (ONE, number))

    def test_bounds(self):
        # Of the old kinds ahead of the table, of the new ones behind it.
        refuses_most(self, TooGreat, 400, by_rules, PAIRS, ((2, ()),), 29, None)
        triple = (3, ())
        refuses_most(self, TooGreat, 400, by_rules, FREE, (triple,), 15, (ONE,) * 15)
        refuses_place(self, BadTable, (), by_rules, FREE, (triple,), 15, (ONE,) * 14)
        self.assertEqual(by_rules(FREE, (triple,), 14, (ONE,) * 14), ((0, 1),) * 364)
        refuses_most(self, TooGreat, 400, by_rules, FREE, (triple, SAME, (2, ())), 14, (ONE,) * 14)


if __name__ == "__main__":
    unittest.main()
