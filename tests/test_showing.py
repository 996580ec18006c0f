"""[5], [23], [28], [29] Showing that a saying holds, and papers of it."""

import unittest
from itertools import combinations
from math import comb

from risingsays.errors import BadBook, BadParameter, BadSaying, NoRow, TooGreat
from risingsays.following import breaking, holds_at, holds_from, is_breaking
from risingsays.making import is_made_of, made_of
from risingsays.sayings import carried
from risingsays.showing import holding_paper, is_holding_paper, is_shown, shown
from tests import plain
from tests.odd import (ODD, IntChild, Placed, Spiteful, TupleChild, first_refused, refusal, refuses_most, refuses_place,
                       refuses_value)
from tests.test_closing import EIGHT, SEVEN, full_book
from tests.test_following import FAR, LESS, NULL, PAIRS, PLUS, SUMS, SUMS_OF_TWO, WRONG_SAYINGS, some_pairs
from tests.test_making import HALVES, NO_PARTS, NO_TRIPLES
from tests.test_tables import WRONG_BOOKS, WRONG_MANY

ONE = (1, 1)
WRONG_PLACES = ODD + (0, (), (3,), (-1,), (0, 1), [0], (True,), (0.0,), (None,), ((0,),), TupleChild((0,)), (IntChild(0),))


class Shown(unittest.TestCase):
    def check_shown(self, book, saying, many, places):
        parts = shown(book, saying, many, places)
        terms = carried(book[0], book[1], places, saying[1])
        self.assertEqual(plain.parts_row(book, many, parts), plain.row_of(terms))
        self.assertIs(is_shown(book, saying, many, places, parts), True)
        self.assertIs(is_shown(book=book, saying=saying, many=many, places=places, value=parts), True)
        self.assertIs(is_made_of(book, many, terms, parts), True)
        self.assertEqual(shown(book=book, saying=saying, many=many, places=places), parts)
        return parts

    def test_the_example(self):
        for place in range(3):
            self.check_shown(SUMS, NULL, 3, (place,))
        for place in range(2):
            refusal(self, NoRow, shown, SUMS, NULL, 2, (place,))
        self.check_shown(SUMS, LESS, 3, (0, 2))
        refusal(self, NoRow, shown, SUMS, LESS, 2, (0, 1))
        for many in (1, 3, 12):
            refusal(self, NoRow, shown, SUMS_OF_TWO, NULL, many, (0,))
        self.check_shown(SUMS_OF_TWO, (2, ((1, 0, (1,)), (1, 0, (0,)))), 2, (0, 1))

    def test_what_is_made_holds_there_also_where_others_do_not(self):
        # One place has enough ahead of it, others do not: the saying does not hold, but these of its maps are shown.
        self.check_shown(FAR, NULL, 6, (0,))
        self.check_shown(FAR, NULL, 7, (1,))
        refusal(self, NoRow, shown, FAR, NULL, 7, (2,))

    def test_each_map_of_a_saying_that_holds(self):
        told = refused = 0
        for _, book, saying in some_pairs(131, 80):
            for many in range(saying[0], 5):
                pivots = plain.made_pivots(book, many)
                there = list(combinations(range(many), saying[0]))
                made = [places for places in there if not plain.reduce_row(
                    book[0], pivots, plain.carry_row(plain.row_of(saying[1]), places))]
                self.assertIs(len(made) == len(there), holds_at(book, saying, many))
                for places in there:
                    if places in made:
                        self.check_shown(book, saying, many, places)
                    else:
                        refusal(self, NoRow, shown, book, saying, many, places)
                told += len(made)
                refused += len(there) - len(made)
        self.assertGreater(told, 200)
        self.assertGreater(refused, 200)

    def test_bounds(self):
        # As those of made_of: closed lists are not asked for.
        wide = (0, (1, 2), (PLUS,))
        refuses_most(self, TooGreat, 400, shown, wide, NULL, 28, (0,))
        self.check_shown(wide, NULL, 27, (26,))
        refuses_most(self, TooGreat, 400, shown, PAIRS, PAIRS[2][0], 29, (0, 1, 2))
        refuses_most(self, TooGreat, 2000, shown, PAIRS, PAIRS[2][0], 24, (0, 1, 2))
        self.check_shown(PAIRS, PAIRS[2][0], 23, (3, 9, 22))
        refuses_most(self, TooGreat, 2000, shown, (0, (1,), (PLUS,) * 60), NULL, 40, (0,))
        self.check_shown((0, (1,), (PLUS,) * 60), NULL, 3, (1,))
        self.check_shown(SEVEN, SEVEN[2][0], 9, (0, 2, 4, 6, 7, 8))
        # The judge has none of them.
        self.assertIs(is_shown(PAIRS, PAIRS[2][0], 40, (0, 1, 39), ((ONE, 0, (0, 1, 39)),)), True)
        self.assertIs(is_shown(wide, NULL, 40, (0,), HALVES), True)
        self.assertIs(is_shown(wide, NULL, 40, (1,), HALVES), False)
        self.assertIs(is_shown((0, (1,), (PLUS,) * 60), NULL, 40, (0,), HALVES), True)

    def test_wrong_parameters(self):
        for call, more in ((shown, ()), (is_shown, (HALVES,))):
            for place, book in WRONG_BOOKS:
                refuses_place(self, BadBook, place, call, book, None, 41, None, *more)
                refuses_place(self, BadBook, place, call, book, NULL, 3, (0,), *more)
            for book in ODD:
                refuses_place(self, BadBook, (), call, book, NULL, 3, (0,), *more)
            for place, saying in WRONG_SAYINGS:
                refuses_place(self, BadSaying, place, call, SUMS, saying, 3, (0,), *more)
            for saying in ODD:
                refuses_place(self, BadSaying, (), call, SUMS, saying, 41, (0,), *more)
            for many in WRONG_MANY:
                refuses_value(self, BadParameter, many, call, SUMS, NULL, many, (0,), *more)
                refuses_value(self, BadParameter, many, call, SUMS, NULL, many, None, *more)
            for places in WRONG_PLACES:
                refuses_value(self, BadParameter, places, call, SUMS, NULL, 3, places, *more)
                refuses_value(self, BadParameter, places, call, (0, (1, 2), (PLUS,) * 60), NULL, 3, places, *more)
            for places in ((), (0,), (1, 0), (0, 0), (0, 1, 2), (0, 3), (0, 1)):
                # On fewer places than its width a saying has no rising map.
                refuses_value(self, BadParameter, places, call, SUMS, PLUS, 1, places, *more)
            refuses_value(self, BadParameter, (0,), call, (0, (0,), ()), (0, ((1, 0, ()),)), 3, (0,), *more)
            refuses_value(self, BadParameter, (0, 1, 29), call, PAIRS, PAIRS[2][0], 29, (0, 1, 29), *more)
            bad = {0: Placed((BadBook, (0, (1,), (None,)), (2, 0))), 1: Placed((BadSaying, (1, ()), (1,))), 2: 41,
                   3: (0, 1)}
            first_refused(self, call, (SUMS, NULL, 3, (0,)) + more, bad)

    def test_no_places(self):
        book = (3, (0,), ((1, ((2, 0, ()),)),))
        self.assertEqual(shown(book, (0, ((1, 0, ()),)), 2, ())[0][1], 0)
        refusal(self, NoRow, shown, book, (0, ((1, 0, ()),)), 0, ())

    def test_the_judge(self):
        self.assertIs(is_shown(SUMS, NULL, 3, (0,), HALVES), True)
        self.assertIs(is_shown(SUMS, NULL, 3, (0,), HALVES[::-1] + (((0, 1), 0, (0, 1)),) * 1997), True)
        self.assertIs(is_shown(SUMS, NULL, 3, (0,), HALVES[::-1] + (((0, 1), 0, (0, 1)),) * 1998), False)
        for place in (1, 2):
            self.assertIs(is_shown(SUMS, NULL, 3, (place,), HALVES), False)
        for value in NO_PARTS + ((), HALVES[:2], HALVES + HALVES[:1]):
            self.assertIs(is_shown(SUMS, NULL, 3, (0,), value), False)
        for triple in NO_TRIPLES:
            self.assertIs(is_shown(SUMS, NULL, 3, (0,), HALVES + (triple,)), False)
            self.assertIs(is_shown(SUMS, NULL, 3, (0,), (triple,) + HALVES[1:]), False)


class HoldingPaper(unittest.TestCase):
    def check_paper(self, book, saying):
        paper = holding_paper(book, saying)
        many, lists, table = paper
        self.assertEqual(many, holds_from(book, saying))
        there = sorted(combinations(range(many), saying[0]))
        self.assertEqual(len(lists), len(there))
        for places, parts in zip(there, lists):
            terms = carried(book[0], book[1], places, saying[1])
            self.assertEqual(plain.parts_row(book, many, parts), plain.row_of(terms))
            self.assertIs(is_shown(book, saying, many, places, parts), True)
        if many == saying[0]:
            self.assertIsNone(table)
        else:
            self.assertIs(is_breaking(book, saying, many - 1, table), True)
        self.assertIs(is_holding_paper(book, saying, paper), True)
        self.assertIs(is_holding_paper(book=book, saying=saying, value=paper), True)
        self.assertEqual(holding_paper(book=book, saying=saying), paper)
        return paper

    def test_the_examples(self):
        self.assertEqual(self.check_paper(SUMS, NULL)[0], 3)
        self.assertEqual(self.check_paper(SUMS, LESS)[0], 3)
        refusal(self, NoRow, holding_paper, SUMS_OF_TWO, NULL)
        self.assertEqual(self.check_paper(SUMS_OF_TWO, (2, ((1, 0, (1,)), (1, 0, (0,))))), (2, (((ONE, 0, (0, 1)),),), None))

    def test_ordinary(self):
        told = [0, 0, 0]
        for _, book, saying in some_pairs(132, 100):
            start = holds_from(book, saying)
            if start is None:
                told[0] += 1
                refusal(self, NoRow, holding_paper, book, saying)
            else:
                told[1 if start == saying[0] else 2] += 1
                self.check_paper(book, saying)
        self.assertGreater(min(told), 5)

    def test_from_great_numbers_on(self):
        ends = (0, (1,), ((6, ((1, 0, (0,)),)), (6, ((1, 0, (5,)),))))
        self.assertEqual(self.check_paper(ends, NULL)[0], 10)
        middle = (5, (2,), ((5, ((1, 0, (0, 4)),)), (5, ((1, 0, (0, 1)),)), (5, ((1, 0, (3, 4)),))))
        self.assertGreater(self.check_paper(middle, (2, ((1, 0, (0, 1)),)))[0], 6)

    def test_no_places(self):
        book = (0, (0,), ((3, ((2, 0, ()),)),))
        self.assertEqual(self.check_paper(book, (0, ((5, 0, ()),))), (3, ((((5, 2), 0, (0, 1, 2)),),), (ONE,)))

    def test_too_great(self):
        refuses_most(self, TooGreat, 60, holding_paper, (0, (1,), (NULL,) * 60), NULL)
        refuses_most(self, TooGreat, 60, holding_paper, full_book((3,) * 6), (3, ((1, 0, (0, 1, 2)),)))
        refuses_most(self, TooGreat, 6, holding_paper, SEVEN, NULL)
        refuses_most(self, TooGreat, 6, holding_paper, EIGHT, (2, ((1, 1, (0, 1)),)))
        # On MANY places: unknowns, then carried sayings; what holds from nowhere on comes ahead.
        ends = ((6, ((1, 0, (0,)),)), (6, ((1, 0, (5,)),)))
        self.assertEqual(comb(10, 6) * 9 + comb(10, 4), 2100)
        many = (0, (1,), ends + (ends[0],) * 8)
        refuses_most(self, TooGreat, 2000, holding_paper, many, NULL)
        self.check_paper((0, (1,), ends + (ends[0],) * 7), NULL)
        great = (0, (1,) + (3,) * 4, many[2])
        refuses_most(self, TooGreat, 400, holding_paper, great, NULL)
        refusal(self, NoRow, holding_paper, great[:2] + ((ends[0],) * 10,), NULL)
        refuses_most(self, TooGreat, 6, holding_paper, great[:2] + (SEVEN[2],), NULL)

    def test_wrong_parameters(self):
        for call, more in ((holding_paper, ()), (is_holding_paper, (None,))):
            for place, book in WRONG_BOOKS:
                refuses_place(self, BadBook, place, call, book, None, *more)
                refuses_place(self, BadBook, place, call, book, NULL, *more)
            for book in ODD:
                refuses_place(self, BadBook, (), call, book, NULL, *more)
            for saying in ODD:
                refuses_place(self, BadSaying, (), call, SUMS, saying, *more)
            for place, saying in WRONG_SAYINGS:
                refuses_place(self, BadSaying, place, call, SUMS, saying, *more)
            first_refused(self, call, (SUMS, NULL) + more, {
                0: Placed((BadBook, (0, (1,), (None,)), (2, 0))), 1: Placed((BadSaying, (1, ()), (1,)))})


class IsHoldingPaper(unittest.TestCase):
    def setUp(self):
        self.lists = tuple(shown(SUMS, NULL, 3, (place,)) for place in range(3))
        self.table = (ONE, (-1, 1))
        self.assertIs(is_holding_paper(SUMS, NULL, (3, self.lists, self.table)), True)

    def test_papers_of_others(self):
        pad = (((0, 1), 0, (0, 1)),)
        lists, table = self.lists, self.table
        for value in ((3, (HALVES,) + lists[1:], table), (3, (HALVES[::-1] + pad,) + lists[1:], table),
                      (3, lists, ((-5, 2), (5, 2))), (3, (lists[0] + pad * 1000,) + lists[1:], table)):
            self.assertIs(is_holding_paper(SUMS, NULL, value), True)

    def test_bent_papers(self):
        lists, table = self.lists, self.table
        four = tuple(made_of(SUMS, 4, ((1, 0, (place,)),)) for place in range(4))
        wrong = [
            # Another number; lists that are too many, too few, of other maps; tables that break nothing or too much.
            (2, lists, table), (4, lists, table), (4, four, table), (4, four, ((0, 1),) * 3), (4, four, (ONE, (-1, 1), ONE)),
            (2, lists[:2], (ONE,)), (2, ((), ()), (ONE,)), (1, ((),), None), (0, (), None), (-1, (), None), (3, lists, None),
            (3, lists[:2], table), (3, lists + lists[:1], table), (3, lists[1:] + lists[:1], table), (3, (), table),
            (3, (HALVES[:2],) + lists[1:], table), (3, ((),) + lists[1:], table), (3, lists, ()), (3, lists, (ONE,)),
            (3, lists, (ONE, ONE)), (3, lists, ((0, 1), (0, 1))), (3, lists, table + (ONE,)), (3, lists, (ONE, (1, -1))),
            (41, lists, table), (40, lists, table), (10 ** 30, lists, table), (3.0, lists, table), (True, lists, table),
            (IntChild(3), lists, table), (3, list(lists), table), (3, lists, list(table)), (3, lists), (3, lists, table, None),
            (3, TupleChild(lists), table), (3, lists, TupleChild(table)),
        ]
        for value in wrong:
            self.assertIs(is_holding_paper(SUMS, NULL, value), False, value)
        self.assertIs(is_holding_paper(SUMS, NULL, TupleChild((3, lists, table))), False)
        self.assertIs(is_holding_paper(SUMS, NULL, [3, lists, table]), False)
        self.assertIs(is_holding_paper(SUMS, LESS, (3, lists, table)), False)
        self.assertIs(is_holding_paper(SUMS_OF_TWO, NULL, (3, lists, table)), False)

    def test_no_table_where_it_holds_from_its_width_on(self):
        paper = (2, (((ONE, 0, (0, 1)),),), None)
        self.assertIs(is_holding_paper(SUMS, PLUS, paper), True)
        for table in ODD[1:] + ((), (ONE,), ((0, 1),)):
            self.assertIs(is_holding_paper(SUMS, PLUS, paper[:2] + (table,)), False)
        three = tuple((((ONE, 0, places),)) for places in combinations(range(3), 2))
        for table in (None, (ONE, (-1, 1)), (ONE, ONE)):
            self.assertIs(is_holding_paper(SUMS, PLUS, (3, three, table)), False)

    def test_values_of_odd_kinds(self):
        lists, table = self.lists, self.table
        for value in ODD + NO_PARTS + NO_TRIPLES + (Spiteful(),):
            self.assertIs(is_holding_paper(SUMS, NULL, value), False)
            self.assertIs(is_holding_paper(SUMS, NULL, (value, lists, table)), False)
            self.assertIs(is_holding_paper(SUMS, NULL, (3, value, table)), False)
            self.assertIs(is_holding_paper(SUMS, NULL, (3, lists, value)), False)
            self.assertIs(is_holding_paper(SUMS, NULL, (3, lists[:2] + (value,), table)), False)
            self.assertIs(is_holding_paper(SUMS, NULL, (3, lists, (ONE, value))), False)
        for triple in NO_TRIPLES:
            self.assertIs(is_holding_paper(SUMS, NULL, (3, (HALVES + (triple,),) + lists[1:], table)), False)

    def test_numbers_with_too_many_unknowns_or_maps(self):
        # Further kinds, of which nothing is said, make no difference to a paper but by how many unknowns there are.
        ends = ((6, ((1, 0, (0,)),)), (6, ((1, 0, (5,)),)))
        many, lists, table = holding_paper((0, (1,), ends), NULL)
        self.assertEqual(many, 10)
        for more, right in ((0, True), (1, True), (3, True), (4, False)):
            kinds = (1,) + (3,) * more
            self.assertIs(10 + more * comb(10, 3) <= 400, right)
            at = dict(zip(plain.unknowns((1,), 9), table))
            longer = tuple(at.get(unknown, (0, 1)) for unknown in plain.unknowns(kinds, 9))
            self.assertIs(is_holding_paper((0, kinds, ends), NULL, (many, lists, longer)), right)
        four = (4, ((1, 0, (0,)),))
        count = comb(21, 4)
        self.assertGreater(count, 5000)
        self.assertIs(is_holding_paper((0, (1,), ()), four, (21, ((),) * count, None)), False)
        self.assertIs(is_holding_paper((0, (1,), ()), four, (40, (), None)), False)

    def test_closed_lists_that_are_too_great(self):
        # The judge asks for no closed list. Places with four or more between them are alike, on ten places so all are.
        refuses_most(self, TooGreat, 6, holding_paper, SEVEN, LESS)
        there = list(combinations(range(10), 2))
        lists = tuple(made_of(SEVEN, 10, ((1, 0, (other,)), (-1, 0, (one,)))) for one, other in there)
        nine = tuple((int(place == 4), 1) for place in range(9))
        self.assertIs(is_holding_paper(SEVEN, LESS, (10, lists, nine)), True)
        self.assertIs(is_holding_paper(SEVEN, LESS, (10, lists, nine[::-1][1:] + (ONE,))), False)
        self.assertIs(is_holding_paper(SEVEN, LESS, (10, lists[::-1], nine)), False)
        self.assertIs(is_holding_paper(SEVEN, SEVEN[2][0], (6, (((ONE, 0, tuple(range(6))),),), None)), True)
        self.assertIs(is_holding_paper(SEVEN[:2] + (SEVEN[2] * 60,), SEVEN[2][0],
                                       (6, (((ONE, 59, tuple(range(6))),),), None)), True)

    def test_bent_by_chance(self):
        for rnd, book, saying in some_pairs(133, 60):
            if holds_from(book, saying) is None:
                continue
            many, lists, table = holding_paper(book, saying)
            at = rnd.randrange(len(lists))
            width = book[2][0][0]
            if width <= many:
                extra = ((1, 1), 0, tuple(range(width)))
                bent = lists[:at] + (lists[at] + (extra,),) + lists[at + 1:]
                self.assertIs(is_holding_paper(book, saying, (many, bent, table)), False)
            self.assertIs(is_holding_paper(book, saying, (many + 1, lists, table)), False)
            if table is not None:
                self.assertIs(is_holding_paper(book, saying, (many, lists, None)), False)
                self.assertIs(is_holding_paper(book, saying, (many, lists, breaking(book, saying, many - 1))), True)
                nought = ((0, 1),) * len(table)
                self.assertIs(is_holding_paper(book, saying, (many, lists, nought)), False)


if __name__ == "__main__":
    unittest.main()
