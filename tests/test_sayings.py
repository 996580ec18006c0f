"""[1], [3], [4], [5], [10] to [13] Unknowns, terms, sayings and books."""

import unittest
from itertools import combinations, permutations, product
from math import comb

from risingsays.errors import BadBook, BadParameter, BadSaying, BadTerms, TooGreat
from risingsays.sayings import (added, carried, mirrored, need_book, need_saying, need_terms, turned,
                                unknowns, whole)
from tests import plain
from tests.odd import (ODD, IntChild, Placed, Spiteful, TupleChild, first_refused, refuses_most,
                       refuses_place, refuses_value)

WRONG_FIELDS = ODD + (-1, 1, 4, 996, 998, 999, 1009, (), (2,), IntChild(2))
WRONG_KINDS = ODD + (0, (), (4,), (-1,), (0,) * 9, (1, True), (1, 1.0), (1, None), [1, 2], (1, 2, (3,)), "12",
                     TupleChild((1, 2)), (IntChild(1),), (1, Spiteful()), (10 ** 30,))
WRONG_MANY = ODD + (-1, 41, 10 ** 30, (), (3,), IntChild(3))
WRONG_NUMBERS = ODD + (1, (), (1,), (2, 2), (1, 0), (0, 2), (1, -1), [1, 1], (True, 1), (1, 1, 1))
BIG = 10 ** 300


class Unknowns(unittest.TestCase):
    def test_the_examples(self):
        self.assertEqual(unknowns((1, 2), 3), ((0, (0,)), (0, (1,)), (1, (0, 1)), (0, (2,)), (1, (0, 2)), (1, (1, 2))))
        self.assertEqual([places for _, places in unknowns((2,), 3)], [(0, 1), (0, 2), (1, 2)])
        self.assertEqual([places for _, places in unknowns((2,), 4)],
                         [(0, 1), (0, 2), (1, 2), (0, 3), (1, 3), (2, 3)])

    def test_all_of_them_once_in_order(self):
        for kinds in plain.KINDS_LOTS:
            for many in range(8):
                self.assertEqual(unknowns(kinds, many), plain.unknowns(kinds, many))

    def test_no_place(self):
        self.assertEqual(unknowns((1,), 0), ())
        self.assertEqual(unknowns((0, 3, 0), 0), ((0, ()), (2, ())))
        self.assertEqual(unknowns(kinds=(3,), many=2), ())

    def test_arity_nought_first(self):
        self.assertEqual(unknowns((1, 0, 2, 0), 2),
                         ((1, ()), (3, ()), (0, (0,)), (0, (1,)), (2, (0, 1))))

    def test_those_of_fewer_places_are_ahead(self):
        for kinds in plain.KINDS_LOTS:
            ahead = ()
            for many in range(41):
                if sum(comb(many, arity) for arity in kinds) > 400:
                    break
                here = unknowns(kinds, many)
                self.assertEqual(here[:len(ahead)], ahead)
                ahead = here

    def test_just_four_hundred_are_let(self):
        for kinds, many in (((2, 1, 1, 1, 1), 25), ((1,) * 8, 40), ((0,) * 8, 40), ((2,), 28), ((3,), 14),
                            ((3, 2, 0, 0, 0, 0, 0), 13)):
            count = sum(comb(many, arity) for arity in kinds)
            self.assertLessEqual(count, 400)
            self.assertEqual(len(set(unknowns(kinds, many))), count)
        self.assertEqual(len(unknowns((2, 1, 1, 1, 1), 25)), 400)

    def test_more_are_refused(self):
        for kinds, many in (((2, 1, 1, 1, 1, 0), 25), ((2,), 29), ((3,), 15), ((3,) * 8, 40), ((2, 2), 21)):
            refuses_most(self, TooGreat, 400, unknowns, kinds, many)

    def test_wrong_parameters(self):
        for kinds in WRONG_KINDS:
            refuses_value(self, BadParameter, kinds, unknowns, kinds, 3)
        for many in WRONG_MANY:
            refuses_value(self, BadParameter, many, unknowns, (1, 2), many)
        first_refused(self, unknowns, ((1,), 3), {0: (4,), 1: 41})
        refuses_value(self, BadParameter, 41, unknowns, (3, 3), 41)


# For the field 0, KINDS (1, 2, 0) and three places; (where, what) stands for what is wrong there.
WRONG_TERMS = (
    [((), value) for value in ODD + (0, 1, [(1, 0, (0,))], TupleChild(((1, 0, (0,)),)))]
    + [((0,), (value,)) for value in ODD + (1, (), (1,), (1, 0), (1, 0, (0,), 0), [1, 0, (0,)], TupleChild((1, 0, (0,))))]
    + [((0,), ((coef, 0, (0,)),)) for coef in ODD + (0, IntChild(2), (1, 1))]
    + [((0,), ((1, kind, (0,)),)) for kind in ODD + (-1, 3, 1, 2, 10 ** 30, IntChild(0))]
    + [((0,), ((1, 0, places),)) for places in ODD + (0, (), (3,), (-1,), (0, 1), [0], (True,), (0.0,), ("0",), (None,),
                                                      ((0,),), (Spiteful(),), (IntChild(0),), TupleChild((0,)))]
    + [((0,), ((1, 1, places),)) for places in ((0,), (0, 0), (1, 0), (0, 3), (0, 1, 2), (0, True), [0, 1], (-1, 1))]
    + [((0,), ((1, 2, places),)) for places in ((0,), None, [], 0)] + [((0,), ((1, -1, ()),)), ((0,), ((1, -2, (0, 1)),))]
    + [((1,), ((1, 0, (0,)), (1, 0, (0,)))), ((1,), ((1, 0, (0,)), (2, 0, (1,)))),
       ((1,), ((1, 0, (0,)), (-1, 1, (0, 1)))), ((1,), ((1, 2, ()), (1, 0, (0,)))),
       ((2,), ((1, 1, (1, 2)), (1, 0, (2,)), (1, 1, (0, 2)))),
       ((1,), ((1, 0, (2,)), (1, 0, (3,)), (0, 0, (0,)))),
       ((1,), ((1, 0, (2,)), None, (1, 0, (2,)))),
       ((2,), ((1, 0, (2,)), (1, 0, (1,)), (1, 0, (1,)), None))])


class NeedTerms(unittest.TestCase):
    def test_what_is_let_is_returned_as_it_was(self):
        for terms in ((), ((1, 0, (0,)),), ((-BIG, 1, (1, 2)), (BIG, 0, (2,)), (1, 2, ())),
                      ((1, 1, (0, 1)), (1, 0, (1,)), (1, 0, (0,)))):
            self.assertIs(need_terms(0, (1, 2, 0), 3, terms), terms)
        terms = ((1, 0, (39,)), (996, 0, (0,)))
        self.assertIs(need_terms(field=997, kinds=(1,), many=40, terms=terms), terms)
        self.assertEqual(need_terms(2, (0,), 0, ((1, 0, ()),)), ((1, 0, ()),))

    def test_more_than_four_hundred_unknowns(self):
        kinds = (3, 2)
        many = 21
        terms = tuple((1, kind, places) for kind, places in reversed(plain.unknowns(kinds, many)))
        self.assertGreater(len(terms), 400)
        self.assertIs(need_terms(0, kinds, many, terms), terms)
        twice = terms[:1000] + terms[999:]
        refuses_place(self, BadTerms, (1000,), need_terms, 0, kinds, many, twice)

    def test_the_place_of_the_first_wrong_thing(self):
        for place, terms in WRONG_TERMS:
            refuses_place(self, BadTerms, place, need_terms, 0, (1, 2, 0), 3, terms)

    def test_coefs_modulo_primes(self):
        for field in (2, 3, 997):
            for coef in {1, field - 1}:
                self.assertEqual(need_terms(field, (1,), 1, ((coef, 0, (0,)),)), ((coef, 0, (0,)),))
            for coef in (0, -1, field, field + 1, BIG, True):
                refuses_place(self, BadTerms, (0,), need_terms, field, (1,), 1, ((coef, 0, (0,)),))

    def test_each_order_of_terms(self):
        there = plain.unknowns((1, 2), 3)
        for chosen in permutations(there, 3):
            terms = tuple((1, kind, places) for kind, places in chosen)
            wrong = [at for at in (1, 2) if plain.compare_unknowns(chosen[at - 1], chosen[at]) <= 0]
            if wrong:
                refuses_place(self, BadTerms, (wrong[0],), need_terms, 0, (1, 2), 3, terms)
            else:
                self.assertEqual(need_terms(0, (1, 2), 3, terms), terms)

    def test_places_that_are_not_there(self):
        for many in range(5):
            refuses_place(self, BadTerms, (0,), need_terms, 0, (1,), many, ((1, 0, (many,)),))
        refuses_place(self, BadTerms, (0,), need_terms, 0, (1,), 40, ((1, 0, (40,)),))

    def test_wrong_parameters(self):
        for field in WRONG_FIELDS:
            refuses_value(self, BadParameter, field, need_terms, field, (1,), 1, ())
        for kinds in WRONG_KINDS:
            refuses_value(self, BadParameter, kinds, need_terms, 0, kinds, 1, ())
        for many in WRONG_MANY:
            refuses_value(self, BadParameter, many, need_terms, 0, (1,), many, ())
        first_refused(self, need_terms, (0, (1,), 1, ()), {0: 8, 1: [1], 2: -1, 3: Placed((BadTerms, None, ()))})


WRONG_SAYINGS = (
    [((), value) for value in ODD + (0, (), (1,), (1, ((1, 0, (0,)),), 1), [1, ((1, 0, (0,)),)],
                                     TupleChild((1, ((1, 0, (0,)),))))]
    + [((0,), (width, ((1, 0, (0,)),))) for width in ODD + (-1, 7, 40, (), (1,), IntChild(1))]
    + [((0,), (7, None)), ((0,), (True, ()))]
    + [((1,), (2, terms)) for terms in ODD + (0, (), [(1, 0, (0,))])]
    + [((1,) + place, (3, terms)) for place, terms in WRONG_TERMS]
    + [((1, 0), (0, ((1, 0, (0,)),))), ((1, 0), (1, ((1, 0, (1,)),))), ((1, 0), (6, ((1, 0, (6,)),)))])


class NeedSaying(unittest.TestCase):
    def test_what_is_let_is_returned_as_it_was(self):
        for saying in ((0, ((1, 2, ()),)), (6, ((1, 1, (4, 5)), (-BIG, 0, (5,)))), (3, ((2, 0, (0,)),))):
            self.assertIs(need_saying(0, (1, 2, 0), saying), saying)
        self.assertEqual(need_saying(field=2, kinds=(0,), saying=(0, ((1, 0, ()),))), (0, ((1, 0, ()),)))

    def test_the_place_of_the_first_wrong_thing(self):
        for place, saying in WRONG_SAYINGS:
            refuses_place(self, BadSaying, place, need_saying, 0, (1, 2, 0), saying)

    def test_no_terms_stand_on_no_place_without_arity_nought(self):
        refuses_place(self, BadSaying, (1,), need_saying, 0, (1,), (0, ()))
        refuses_place(self, BadSaying, (1, 0), need_saying, 0, (1,), (0, ((1, 0, ()),)))

    def test_wrong_parameters(self):
        for field in WRONG_FIELDS:
            refuses_value(self, BadParameter, field, need_saying, field, (1,), (1, ((1, 0, (0,)),)))
        for kinds in WRONG_KINDS:
            refuses_value(self, BadParameter, kinds, need_saying, 0, kinds, (1, ((1, 0, (0,)),)))
        first_refused(self, need_saying, (0, (1,), (1, ((1, 0, (0,)),))),
                      {0: -3, 1: (1,) * 9, 2: Placed((BadSaying, (1, None), (1,)))})


SAYING = (2, ((1, 0, (1,)), (1, 0, (0,))))


class NeedBook(unittest.TestCase):
    def test_what_is_let_is_returned_as_it_was(self):
        for book in ((0, (1,), ()), (997, (3,) * 8, ()), (2, (0,), ((0, ((1, 0, ()),)),)), (0, (1,), (SAYING,) * 60),
                     (0, (1, 2, 0), ((6, ((BIG, 1, (0, 5)),)), (0, ((1, 2, ()),))))):
            self.assertIs(need_book(book), book)
        self.assertEqual(need_book(book=(5, (1,), (SAYING,))), (5, (1,), (SAYING,)))

    def test_wrong_wholes(self):
        for book in ODD + (0, (), (0, (1,)), (0, (1,), (), ()), [0, (1,), ()], TupleChild((0, (1,), ()))):
            refuses_place(self, BadBook, (), need_book, book)

    def test_wrong_fields(self):
        for field in WRONG_FIELDS:
            refuses_place(self, BadBook, (0,), need_book, (field, (1,), ()))
            refuses_place(self, BadBook, (0,), need_book, (field, None, None))

    def test_wrong_kinds(self):
        for kinds in ODD + (0, (), (1,) * 9, [1], TupleChild((1,))):
            refuses_place(self, BadBook, (1,), need_book, (0, kinds, ()))
            refuses_place(self, BadBook, (1,), need_book, (0, kinds, None))
        for wrong in ODD + (-1, 4, BIG, (), (1,), IntChild(1)):
            refuses_place(self, BadBook, (1, 0), need_book, (0, (wrong,), ()))
            refuses_place(self, BadBook, (1, 2), need_book, (2, (0, 3, wrong, 1), None))
            refuses_place(self, BadBook, (1, 7), need_book, (2, (0,) * 7 + (wrong,), ()))
        refuses_place(self, BadBook, (1,), need_book, (0, (4,) * 9, ()))
        refuses_place(self, BadBook, (1, 1), need_book, (0, (1, 4, 5), ()))

    def test_wrong_sayings(self):
        for sayings in ODD + (0, (SAYING,) * 61, [SAYING], (None,) * 61, TupleChild((SAYING,))):
            refuses_place(self, BadBook, (2,), need_book, (0, (1,), sayings))
        for place, saying in WRONG_SAYINGS:
            for ahead in (0, 1, 59):
                sayings = ((1, ((1, 0, (0,)),)),) * ahead + (saying,)
                refuses_place(self, BadBook, (2, ahead) + place, need_book, (0, (1, 2, 0), sayings))
        refuses_place(self, BadBook, (2, 1, 0), need_book, (0, (1,), (SAYING, (7, ()), None)))

    def test_coefs_of_the_book_s_field(self):
        self.assertEqual(need_book((0, (1,), ((1, ((2, 0, (0,)),)),)))[0], 0)
        refuses_place(self, BadBook, (2, 0, 1, 0), need_book, (2, (1,), ((1, ((2, 0, (0,)),)),)))


class Carried(unittest.TestCase):
    def test_the_example(self):
        self.assertEqual(carried(0, (1, 2), (0, 2), ((2, 1, (0, 1)), (-4, 0, (0,)))), ((2, 1, (0, 2)), (-4, 0, (0,))))

    def test_each_map(self):
        rnd = plain.dice(1)
        for field, kinds in product((0, 2, 997), plain.KINDS_LOTS):
            for width in range(5):
                terms = plain.some_terms(field, kinds, width, rnd)
                for places in combinations(range(6), width):
                    there = carried(field, kinds, places, terms)
                    self.assertEqual(there, plain.terms_of(plain.carry_row(plain.row_of(terms), places)))
                    self.assertEqual(need_terms(field, kinds, 6, there), there)

    def test_one_map_behind_another_one_is_one_map(self):
        rnd = plain.dice(2)
        for kinds in plain.KINDS_LOTS:
            terms = plain.some_terms(0, kinds, 3, rnd)
            for first in combinations(range(5), 3):
                for second in combinations(range(7), 5):
                    both = tuple(second[at] for at in first)
                    self.assertEqual(carried(0, kinds, second, carried(0, kinds, first, terms)),
                                     carried(0, kinds, both, terms))

    def test_the_edges(self):
        self.assertEqual(carried(0, (1,), (), ()), ())
        self.assertEqual(carried(0, (0,), (), ((3, 0, ()),)), ((3, 0, ()),))
        self.assertEqual(carried(0, (1,), (39,), ((BIG, 0, (0,)),)), ((BIG, 0, (39,)),))
        every = tuple(range(40))
        terms = ((7, 0, (37, 38, 39)), (-BIG, 0, (0, 1, 2)))
        self.assertEqual(carried(field=0, kinds=(3,), places=every, terms=terms), terms)

    def test_wrong_parameters(self):
        terms = ((1, 0, (0,)),)
        for field in WRONG_FIELDS:
            refuses_value(self, BadParameter, field, carried, field, (1,), (0,), terms)
        for kinds in WRONG_KINDS:
            refuses_value(self, BadParameter, kinds, carried, 0, kinds, (0,), terms)
        for places in ODD + (0, (40,), (-1,), (0, 0), (1, 0), [0], (True,), (0, None), tuple(range(41)), ((0,),),
                             TupleChild((0,)), (IntChild(0),), (Spiteful(),)):
            refuses_value(self, BadParameter, places, carried, 0, (1,), places, terms)
        for place, wrong in WRONG_TERMS:
            refuses_place(self, BadTerms, place, carried, 0, (1, 2, 0), (3, 5, 39), wrong)
        refuses_place(self, BadTerms, (0,), carried, 0, (1,), (), terms)
        refuses_place(self, BadTerms, (0,), carried, 0, (1,), (4, 5), ((1, 0, (4,)),))
        first_refused(self, carried, (0, (1,), (2,), terms),
                      {0: 1000, 1: (), 2: (40,), 3: Placed((BadTerms, (None,), (0,)))})


class Whole(unittest.TestCase):
    def test_the_example(self):
        self.assertEqual(whole(0, (1, 2), 2, ((2, 1, (0, 1)), (-4, 0, (0,)))), ((1, 1, (0, 1)), (-2, 0, (0,))))

    def test_multiples(self):
        rnd = plain.dice(3)
        for field, kinds in product((0, 2, 3, 997), plain.KINDS_LOTS):
            for _ in range(6):
                terms = plain.some_terms(field, kinds, 4, rnd, coef=30)
                self.assertEqual(whole(field, kinds, 4, terms), plain.whole_terms(field, plain.row_of(terms)))

    def test_the_edges(self):
        for field in (0, 2, 997):
            self.assertEqual(whole(field, (1,), 40, ()), ())
        self.assertEqual(whole(0, (1,), 1, ((-BIG, 0, (0,)),)), ((1, 0, (0,)),))
        self.assertEqual(whole(997, (1,), 1, ((996, 0, (0,)),)), ((1, 0, (0,)),))
        self.assertEqual(whole(0, (1,), 2, ((-6, 0, (1,)), (4, 0, (0,)))), ((3, 0, (1,)), (-2, 0, (0,))))
        self.assertEqual(whole(7, (1,), 2, ((6, 0, (1,)), (4, 0, (0,)))), ((1, 0, (1,)), (3, 0, (0,))))
        self.assertEqual(whole(field=0, kinds=(2,), many=40, terms=((-2 * BIG, 0, (0, 39)), (3 * BIG, 0, (0, 1)))),
                         ((2, 0, (0, 39)), (-3, 0, (0, 1))))

    def test_wrong_parameters(self):
        for field in WRONG_FIELDS:
            refuses_value(self, BadParameter, field, whole, field, (1,), 1, ())
        for kinds in WRONG_KINDS:
            refuses_value(self, BadParameter, kinds, whole, 0, kinds, 1, ())
        for many in WRONG_MANY:
            refuses_value(self, BadParameter, many, whole, 0, (1,), many, ())
        for place, wrong in WRONG_TERMS:
            refuses_place(self, BadTerms, place, whole, 0, (1, 2, 0), 3, wrong)
        first_refused(self, whole, (0, (1,), 1, ()), {0: 8, 1: [1], 2: -1, 3: Placed((BadTerms, (1,), (0,)))})


class Added(unittest.TestCase):
    def test_the_example(self):
        self.assertEqual(added(0, (1,), 2, ((2, 0, (1,)),), ((1, 0, (1,)), (1, 0, (0,))), (1, 2)),
                         ((5, 0, (1,)), (1, 0, (0,))))

    def test_sums(self):
        rnd = plain.dice(4)
        for field, kinds in product((0, 2, 3, 997), plain.KINDS_LOTS):
            for _ in range(12):
                many = rnd.randint(0, 4)
                terms = plain.some_terms(field, kinds, many, rnd)
                others = plain.some_terms(field, kinds, many, rnd)
                factor = plain.some_number(field, rnd)
                row = plain.add_rows(field, plain.row_of(terms), plain.row_of(others), plain.Fraction(*factor))
                self.assertEqual(added(field, kinds, many, terms, others, factor), plain.whole_terms(field, row))

    def test_what_comes_to_nothing(self):
        one = ((2, 0, (1,)), (3, 0, (0,)))
        self.assertEqual(added(0, (1,), 2, one, one, (-1, 1)), ())
        self.assertEqual(added(0, (1,), 2, one, ((-4, 0, (1,)), (-6, 0, (0,))), (1, 2)), ())
        self.assertEqual(added(0, (1,), 2, one, ((1, 0, (1,)),), (-2, 1)), ((1, 0, (0,)),))
        self.assertEqual(added(0, (1,), 2, one, ((1, 0, (0,)),), (-3, 1)), ((1, 0, (1,)),))
        self.assertEqual(added(2, (1,), 1, ((1, 0, (0,)),), ((1, 0, (0,)),), (1, 1)), ())
        self.assertEqual(added(997, (1,), 1, ((1, 0, (0,)),), ((996, 0, (0,)),), (1, 1)), ())
        for field in (0, 2, 997):
            self.assertEqual(added(field, (1,), 0, (), (), (1, 1)), ())
            self.assertEqual(added(field, (1,), 1, (), ((1, 0, (0,)),), (0, 1)), ())
            self.assertEqual(added(field, (1,), 1, ((1, 0, (0,)),), (), (0, 1)), ((1, 0, (0,)),))

    def test_many_places_and_figures(self):
        one = ((BIG, 0, (38, 39)), (-BIG, 0, (0, 1)))
        other = ((BIG + 1, 0, (38, 39)), (1, 0, (0, 2)))
        self.assertEqual(added(field=0, kinds=(2,), many=40, terms=one, others=other, factor=(-BIG, BIG + 1)),
                         ((1, 0, (0, 2)), (BIG + 1, 0, (0, 1))))

    def test_wrong_parameters(self):
        terms = ((1, 0, (0,)),)
        for field in WRONG_FIELDS:
            refuses_value(self, BadParameter, field, added, field, (1,), 1, terms, terms, (1, 1))
        for kinds in WRONG_KINDS:
            refuses_value(self, BadParameter, kinds, added, 0, kinds, 1, terms, terms, (1, 1))
        for many in WRONG_MANY:
            refuses_value(self, BadParameter, many, added, 0, (1,), many, terms, terms, (1, 1))
        for place, wrong in WRONG_TERMS:
            refuses_place(self, BadTerms, place, added, 0, (1, 2, 0), 3, wrong, None, None)
            refuses_place(self, BadTerms, place, added, 0, (1, 2, 0), 3, terms, wrong, None)
        for factor in WRONG_NUMBERS:
            refuses_value(self, BadParameter, factor, added, 0, (1,), 1, terms, terms, factor)
        for factor in ((2, 1), (-1, 1), (1, 2), (0, 2), 1):
            refuses_value(self, BadParameter, factor, added, 2, (1,), 1, terms, terms, factor)
        first_refused(self, added, (0, (1,), 1, terms, terms, (1, 2)),
                      {0: 8, 1: [1], 2: -1, 3: Placed((BadTerms, (None,), (0,))),
                       4: Placed((BadTerms, terms + terms, (1,))), 5: (2, 4)})


class Turned(unittest.TestCase):
    def test_ordinary(self):
        saying = (3, ((5, 0, (0, 2)), (3, 1, (1,))))
        self.assertEqual(turned(0, (2, 1), saying, (1, 2, 0)), (3, ((3, 1, (2,)), (5, 0, (0, 1)))))
        self.assertEqual(turned(0, (2, 1), saying, (0, 1, 2)), saying)
        self.assertEqual(mirrored(0, (2, 1), saying), (3, ((5, 0, (0, 2)), (3, 1, (1,)))))
        self.assertEqual(mirrored(field=0, kinds=(1,), saying=(2, ((-4, 0, (1,)),))), (2, ((-4, 0, (0,)),)))

    def test_the_edges(self):
        nothing = (0, ((-2, 0, ()),))
        self.assertEqual(turned(field=0, kinds=(0,), saying=nothing, order=()), nothing)
        self.assertEqual(mirrored(0, (0,), nothing), nothing)
        self.assertEqual(turned(2, (1,), (1, ((1, 0, (0,)),)), (0,)), (1, ((1, 0, (0,)),)))
        wide = (6, ((2, 0, (3, 4, 5)), (-BIG, 0, (0, 1, 2))))
        self.assertEqual(mirrored(0, (3,), wide), (6, ((-BIG, 0, (3, 4, 5)), (2, 0, (0, 1, 2)))))

    def test_each_order(self):
        rnd = plain.dice(5)
        for field, kinds in product((0, 2, 997), plain.KINDS_LOTS):
            saying = plain.some_saying(field, kinds, rnd, (3, 4))
            width, terms = saying
            for order in permutations(range(width)):
                row = {(kind, tuple(sorted(order[at] for at in places))): coef for coef, kind, places in terms}
                self.assertEqual(turned(field, kinds, saying, order), (width, plain.terms_of(row)))

    def test_turned_twice_is_turned_once(self):
        rnd = plain.dice(6)
        for kinds in plain.KINDS_LOTS:
            saying = plain.some_saying(0, kinds, rnd, (3,))
            for one in permutations(range(3)):
                for other in permutations(range(3)):
                    both = tuple(other[one[at]] for at in range(3))
                    self.assertEqual(turned(0, kinds, turned(0, kinds, saying, one), other),
                                     turned(0, kinds, saying, both))

    def test_mirrored_is_turned_and_twice_is_itself(self):
        rnd = plain.dice(7)
        for field, kinds in product((0, 5), plain.KINDS_LOTS):
            saying = plain.some_saying(field, kinds, rnd, (0, 1, 2, 3, 6))
            there = mirrored(field, kinds, saying)
            self.assertEqual(there, turned(field, kinds, saying, tuple(reversed(range(saying[0])))))
            self.assertEqual(need_saying(field, kinds, there), there)
            self.assertEqual(mirrored(field, kinds, there), saying)

    def test_wrong_parameters(self):
        for field in WRONG_FIELDS:
            refuses_value(self, BadParameter, field, turned, field, (1,), SAYING, (0, 1))
            refuses_value(self, BadParameter, field, mirrored, field, (1,), SAYING)
        for kinds in WRONG_KINDS:
            refuses_value(self, BadParameter, kinds, turned, 0, kinds, SAYING, (0, 1))
            refuses_value(self, BadParameter, kinds, mirrored, 0, kinds, SAYING)
        for place, wrong in WRONG_SAYINGS:
            refuses_place(self, BadSaying, place, turned, 0, (1, 2, 0), wrong, ())
            refuses_place(self, BadSaying, place, mirrored, 0, (1, 2, 0), wrong)
        for order in ODD + (0, (), (0,), (0, 0), (1, 1), (0, 2), (1, 2), (0, 1, 2), (-1, 0), [1, 0], (True, 0),
                            (1, False), (1.0, 0), (None, 1), ((1,), 0), (Spiteful(), 0), TupleChild((1, 0)),
                            (0, IntChild(1))):
            refuses_value(self, BadParameter, order, turned, 0, (1,), SAYING, order)
        first_refused(self, turned, (0, (1,), SAYING, (1, 0)),
                      {0: 8, 1: [1], 2: Placed((BadSaying, (2, ()), (1,))), 3: (0, 2)})
        first_refused(self, mirrored, (0, (1,), SAYING), {0: 8, 1: [1], 2: Placed((BadSaying, (7, ()), (0,)))})


if __name__ == "__main__":
    unittest.main()
