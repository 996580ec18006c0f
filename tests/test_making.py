"""[6], [23] What is made of a book, and its judge."""

import unittest
from math import comb

from risingsays.errors import BadBook, BadParameter, BadTerms, NoRow, TooGreat
from risingsays.making import is_made_of, made_of
from tests import plain
from tests.odd import (ODD, IntChild, Placed, Spiteful, TupleChild, first_refused, refusal, refuses_most, refuses_place,
                       refuses_value)
from tests.test_bringing import some_books
from tests.test_tables import WRONG_BOOKS, WRONG_MANY

SUMS = (0, (1,), ((2, ((1, 0, (1,)), (1, 0, (0,)))),))
PAIRS = (0, (2,), ((3, ((1, 0, (1, 2)), (-1, 0, (0, 2)), (1, 0, (0, 1)))),))
TWO = (5, (1, 0), ((2, ((1, 0, (1,)), (3, 0, (0,)))), (1, ((2, 0, (0,)), (1, 1, ())))))
PLACE = ((1, 0, (0,)),)
HALVES = (((1, 2), 0, (0, 1)), ((1, 2), 0, (0, 2)), ((-1, 2), 0, (1, 2)))
# No PARTS, whatever they are to come to: as a whole, or for each triple of theirs.
NO_PARTS = ODD + (0, 1, "PARTS", list(HALVES), {HALVES[0]: True}, TupleChild(HALVES), set(HALVES), HALVES[0])
NO_TRIPLES = ODD + (0, (), ((1, 2),), ((1, 2), 0), ((1, 2), 0, (0, 1), 0), [(1, 2), 0, (0, 1)], (1, 0, (0, 1)),
                    ((2, 4), 0, (0, 1)), ((1, 0), 0, (0, 1)), ([1, 2], 0, (0, 1)), ((1,), 0, (0, 1)),
                    ((True, 1), 0, (0, 1)), ((1.0, 2), 0, (0, 1)), ((-1, -2), 0, (0, 1)), (None, 0, (0, 1)),
                    ((1, 2), 1, (0, 1)), ((1, 2), -1, (0, 1)), ((1, 2), False, (0, 1)), ((1, 2), 0.0, (0, 1)),
                    ((1, 2), None, (0, 1)), ((1, 2), (0,), (0, 1)), ((1, 2), IntChild(0), (0, 1)), ((1, 2), 0, 0),
                    ((1, 2), 0, (0,)), ((1, 2), 0, (0, 1, 2)), ((1, 2), 0, (1, 0)), ((1, 2), 0, (0, 0)),
                    ((1, 2), 0, (0, 3)), ((1, 2), 0, (-1, 1)), ((1, 2), 0, [0, 1]), ((1, 2), 0, (False, True)),
                    ((1, 2), 0, (0.0, 1.0)), ((1, 2), 0, (None, 1)), ((1, 2), 0, TupleChild((0, 1))),
                    (Spiteful(), 0, (0, 1)), ((1, 2), Spiteful(), (0, 1)), ((1, 2), 0, Spiteful()),
                    ((1, 2), 0, (0, Spiteful())), ((Spiteful(), 2), 0, (0, 1)))


class MadeOf(unittest.TestCase):
    def test_the_example(self):
        self.check_made(SUMS, 3, PLACE)
        self.assertIs(is_made_of(SUMS, 3, PLACE, HALVES), True)
        refusal(self, NoRow, made_of, SUMS, 2, PLACE)
        refusal(self, NoRow, made_of, (2,) + SUMS[1:], 3, PLACE)
        refusal(self, NoRow, made_of, (2,) + SUMS[1:], 40, PLACE)

    def check_made(self, book, many, terms):
        parts = made_of(book, many, terms)
        self.assertEqual(plain.parts_row(book, many, parts), plain.row_of(terms))
        self.assertIs(is_made_of(book, many, terms, parts), True)
        self.assertEqual(made_of(book=book, many=many, terms=terms), parts)
        return parts

    def test_nothing_is_made_of_each_book(self):
        for book in (SUMS, PAIRS, TWO, (0, (1,), ())):
            for many in (0, 1, 5):
                self.check_made(book, many, ())

    def test_no_sayings_and_sayings_on_too_many_places(self):
        refusal(self, NoRow, made_of, (0, (1,), ()), 3, PLACE)
        refusal(self, NoRow, made_of, (3, (0,), ((2, ((1, 0, ()),)),)), 1, ((1, 0, ()),))
        self.check_made((3, (0,), ((2, ((1, 0, ()),)),)), 2, ((2, 0, ()),))

    def test_it_is_told_just_if_elimination_tells_it(self):
        for rnd, book in some_books(81, 120, (0, 1, 2, 3, 4), (1, 2, 3)):
            for many in (rnd.randint(0, 3), rnd.randint(3, 6)):
                for terms in (plain.something_made(book, many, rnd), plain.some_terms(book[0], book[1], many, rnd)):
                    if plain.is_made(book, many, terms):
                        self.check_made(book, many, terms)
                    else:
                        refusal(self, NoRow, made_of, book, many, terms)

    def test_members_of_closed_books_with_more_than_six_places(self):
        # What is made does not hang on the closed list: here it has members of eight places, of seven.
        eight = (2, (2, 2), ((5, ((1, 1, (1, 4)),)), (5, ((1, 0, (0, 4)), (1, 1, (0, 1))))))
        self.check_made(eight, 8, ((1, 1, (1, 2)),))
        refusal(self, NoRow, made_of, eight, 7, ((1, 1, (1, 2)),))
        seven = (0, (1,), ((6, ((1, 0, (5,)), (-1, 0, (0,)))),))
        self.check_made(seven, 7, ((-3, 0, (1,)), (3, 0, (0,))))
        refusal(self, NoRow, made_of, seven, 6, ((1, 0, (1,)), (-1, 0, (0,))))
        self.check_made(seven, 8, ((1, 0, (2,)), (-1, 0, (0,))))

    def test_wide_sayings(self):
        rnd = plain.dice(82)
        for _ in range(40):
            field = rnd.choice((0, 2, 997))
            book = plain.some_book(field, rnd.choice(((1,), (1, 2), (2,), (3,))), rnd, 2, (4, 5, 6), 5)
            many = rnd.randint(6, 9)
            self.check_made(book, many, plain.something_made(book, many, rnd, 6))
            terms = plain.some_terms(field, book[1], many, rnd, 2)
            if plain.is_made(book, many, terms):
                self.check_made(book, many, terms)
            else:
                refusal(self, NoRow, made_of, book, many, terms)

    def test_many_places(self):
        rnd = plain.dice(83)
        for book, many in ((SUMS, 40), (PAIRS, 23), ((997,) + SUMS[1:], 40),
                           ((0, (1, 1, 0), ((2, ((1, 1, (1,)), (2, 0, (0,)))), (1, ((1, 1, (0,)), (1, 2, ()))))), 40)):
            self.check_made(book, many, plain.something_made(book, many, rnd, 12))

    def test_great_coefs(self):
        big = 10 ** 40
        book = (0, (1,), ((2, ((big, 0, (1,)), (big + 1, 0, (0,)))),))
        self.check_made(book, 3, PLACE)
        self.check_made(book, 4, ((big, 0, (3,)), (7, 0, (0,))))

    def test_bounds(self):
        # 400 unknowns are let, more are not; nor are more than 2,000 carried sayings, behind this.
        self.check_made((0, (2, 1, 1, 1, 1), ((1, ((1, 1, (0,)),)),)), 25, ((1, 1, (24,)),))
        refuses_most(self, TooGreat, 400, made_of, (0, (2, 1, 1, 1, 1, 0), ((1, ((1, 1, (0,)),)),)), 25, ())
        self.assertEqual(2 * comb(40, 2) + 11 * 40, 2000)
        sayings = SUMS[2] * 2 + ((1, ((1, 0, (0,)),)),) * 11
        self.check_made((0, (1,), sayings), 40, ((1, 0, (39,)), (1, 0, (3,))))
        refuses_most(self, TooGreat, 2000, made_of, (0, (1, 0), sayings + ((0, ((1, 1, ()),)),)), 40, ())
        refuses_most(self, TooGreat, 2000, made_of, PAIRS, 24, ())
        refuses_most(self, TooGreat, 400, made_of, PAIRS, 29, ())
        # Ahead of NoRow, behind the errors of the parameters.
        refuses_most(self, TooGreat, 2000, made_of, PAIRS, 24, ((1, 0, (0, 1)),))
        refuses_place(self, BadTerms, (0,), made_of, PAIRS, 29, ((1, 0, (0, 29)),))

    def test_wrong_parameters(self):
        for call, more in ((made_of, ()), (is_made_of, (HALVES,))):
            for place, book in WRONG_BOOKS:
                refuses_place(self, BadBook, place, call, book, 41, None, *more)
                refuses_place(self, BadBook, place, call, book, 3, PLACE, *more)
            for book in ODD:
                refuses_place(self, BadBook, (), call, book, 3, PLACE, *more)
            for many in WRONG_MANY:
                refuses_value(self, BadParameter, many, call, SUMS, many, None, *more)
                refuses_value(self, BadParameter, many, call, SUMS, many, (), *more)
            for terms in ODD + (0, [(1, 0, (0,))]):
                refuses_place(self, BadTerms, (), call, SUMS, 3, terms, *more)
            for term in ODD + ((0, 0, (0,)), (1, 1, (0,)), (1, 0, (0, 1)), (1, 0, (3,)), (1, 0, [0]), (True, 0, (0,))):
                refuses_place(self, BadTerms, (0,), call, SUMS, 3, (term,), *more)
            refuses_place(self, BadTerms, (1,), call, SUMS, 3, ((1, 0, (0,)), (1, 0, (1,))), *more)
            refuses_place(self, BadTerms, (0,), call, TWO, 3, ((5, 0, (0,)),), *more)
            first_refused(self, call, (SUMS, 3, PLACE) + more,
                          {0: Placed((BadBook, (0, (1,), (None,)), (2, 0))), 1: 3.0, 2: Placed((BadTerms, (1,), (0,)))})


class IsMadeOf(unittest.TestCase):
    def test_other_right_parts(self):
        one, two, three = HALVES
        right = (HALVES, (three, one, two), (two, three, one), HALVES + (((0, 1), 0, (0, 1)),),
                 (((0, 1), 0, (1, 2)),) + HALVES, HALVES + HALVES + tuple(((-n, d), at, places) for (n, d), at, places in HALVES),
                 (((1, 4), 0, (0, 1)), ((1, 4), 0, (0, 1)), two, three), (one, two, ((-1, 1), 0, (1, 2)), ((1, 2), 0, (1, 2))),
                 (one, two, three, ((7, 3), 0, (0, 1)), ((-7, 3), 0, (0, 1))))
        for value in right:
            self.assertIs(is_made_of(SUMS, 3, PLACE, value), True, value)
            self.assertIs(is_made_of(SUMS, 4, PLACE, value), True, value)
        self.assertIs(is_made_of(book=SUMS, many=3, terms=(), value=()), True)
        self.assertIs(is_made_of(SUMS, 3, (), (((0, 1), 0, (0, 1)),) * 2000), True)

    def test_bent_parts(self):
        one, two, three = HALVES
        for value in ((), (one,), (one, two), (one, two, two), HALVES + (one,), (one, two, ((1, 2), 0, (1, 2))),
                      (one, three, three), (((1, 3), 0, (0, 1)), two, three), (((1, 1), 0, (0, 1)), two, three),
                      tuple(((2 * n // d, 1), at, places) for (n, d), at, places in HALVES)):
            self.assertIs(is_made_of(SUMS, 3, PLACE, value), False, value)
        self.assertIs(is_made_of(SUMS, 3, ((-1, 0, (0,)),), HALVES), False)
        self.assertIs(is_made_of(SUMS, 3, ((1, 0, (1,)),), HALVES), False)
        self.assertIs(is_made_of(SUMS, 3, (), HALVES), False)
        self.assertIs(is_made_of(SUMS, 2, PLACE, HALVES), False)

    def test_values_of_odd_kinds(self):
        for value in NO_PARTS:
            self.assertIs(is_made_of(SUMS, 3, PLACE, value), False)
            self.assertIs(is_made_of(SUMS, 3, (), value), False)
        for triple in NO_TRIPLES:
            for at in range(3):
                self.assertIs(is_made_of(SUMS, 3, PLACE, HALVES[:at] + (triple,) + HALVES[at + 1:]), False)
            self.assertIs(is_made_of(SUMS, 3, PLACE, HALVES + (triple,)), False)
            self.assertIs(is_made_of(SUMS, 3, (), (triple,)), False)

    def test_modulo_primes(self):
        book = TWO
        terms = ((1, 0, (2,)), (3, 0, (0,)))
        self.assertIs(is_made_of(book, 3, terms, (((1, 1), 0, (0, 2)),)), True)
        self.assertIs(is_made_of(book, 3, terms, (((3, 1), 0, (0, 2)), ((3, 1), 0, (0, 2)))), True)
        for number in ((6, 1), (-4, 1), (1, 2), (0, 1), (2, 1), (1, 1, 1), 1):
            self.assertIs(is_made_of(book, 3, terms, ((number, 0, (0, 2)),)), False)
        self.assertIs(is_made_of(book, 3, ((2, 0, (1,)), (1, 1, ())), (((1, 1), 1, (1,)),)), True)
        self.assertIs(is_made_of(book, 3, ((2, 0, (1,)), (1, 1, ())), (((1, 1), 1, (0,)),)), False)

    def test_it_has_no_bound_but_two_thousand_triples(self):
        pair = (((1, 1), 0, (0, 39)), ((-1, 1), 0, (0, 39)))
        wide = (0, (1,) + (3,) * 7, SUMS[2] + ((6, ((1, 1, (3, 4, 5)),)),))
        self.assertIs(is_made_of(wide, 40, (), pair * 1000), True)
        self.assertIs(is_made_of(wide, 40, (), pair * 1000 + (((0, 1), 0, (0, 39)),)), False)
        self.assertIs(is_made_of((0, (3,) * 8, ((6, ((1, 7, (3, 4, 5)),)),)), 40, ((2, 7, (3, 4, 39)),),
                                 (((2, 1), 0, (0, 1, 2, 3, 4, 39)),)), True)
        self.assertIs(is_made_of((0, (3,) * 8, ((6, ((1, 7, (3, 4, 5)),)),)), 40, ((2, 7, (2, 4, 39)),),
                                 (((2, 1), 0, (0, 1, 2, 3, 4, 39)),)), False)

    def test_bent_by_chance(self):
        wrong = 0
        for rnd, book in some_books(84, 60, (1, 2, 3), (1, 2, 3)):
            many = rnd.randint(3, 5)
            terms = plain.something_made(book, many, rnd)
            parts = list(made_of(book, many, terms))
            for _ in range(4):
                at = rnd.randrange(len(book[2]))
                places = tuple(sorted(rnd.sample(range(many), book[2][at][0])))
                bent = parts + [(plain.some_number(book[0], rnd), at, places)]
                bent.pop(rnd.randrange(len(bent)))
                rnd.shuffle(bent)
                right = plain.parts_row(book, many, bent) == plain.row_of(terms)
                wrong += not right
                self.assertIs(is_made_of(book, many, terms, tuple(bent)), right)
        self.assertGreater(wrong, 100)


if __name__ == "__main__":
    unittest.main()
