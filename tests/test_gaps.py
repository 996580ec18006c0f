"""[7], [17], [18] Gaps, and rows of gaps."""

import unittest
from itertools import combinations, product
from math import comb

from risingsays.errors import BadParameter
from risingsays.gaps import counted, gaps_of, joined, least_rows, places_of, reaches
from tests import plain
from tests.odd import ODD, IntChild, Spiteful, TupleChild, first_refused, refuses_value

WRONG_MANY = ODD + (-1, 41, 10 ** 30, (), (3,), IntChild(3))
# None of these is GAPS.
NO_GAPS = ODD + (0, (), (0,) * 5, (-1,), (41,), (0, 41), (1, -1, 0), [0, 1], (True,), (0, False), (1.0,), (None, 1),
                 ("1",), ((1,),), (Spiteful(), 0), TupleChild((1, 1)), (IntChild(1),), (10 ** 30,))
NO_ROWS = ODD + (0, ((0,),) * 61, [(0,)], (0, 1), ((0,), (0, 1)), ((0, 1), (0,)), ((13,),), ((0, 0), (0, 13)), ((),),
                 ((0,), None), ((0,) * 5,), ([0],), ((True,),), ((0,), (1.0,)), ((-1, 0),), (Spiteful(),), ((0,), ()),
                 TupleChild(((0,),)), ((40, 0),), (((0,),),))


def some_rows(rnd, arity, most, size):
    return tuple(tuple(rnd.randint(0, most) for _ in range(arity + 1)) for _ in range(size))


def rows_by_chance(seed, turns):
    rnd = plain.dice(seed)
    for _ in range(turns):
        arity = rnd.randint(0, 3)
        yield arity, some_rows(rnd, arity, rnd.choice((1, 3, 12)), rnd.randint(0, 6))


class Gaps(unittest.TestCase):
    def test_ordinary(self):
        self.assertEqual(gaps_of(3, (1, 2)), (1, 0, 0))
        self.assertEqual(gaps_of(many=40, places=(0, 20, 39)), (0, 19, 18, 0))
        for many in range(41):
            self.assertEqual(gaps_of(many, ()), (many,))
        self.assertEqual(gaps_of(40, (39,)), (39, 0))
        self.assertEqual(gaps_of(1, (0,)), (0, 0))

    def test_all_of_few_places(self):
        for many in range(9):
            for size in range(4):
                for places in combinations(range(many), size):
                    there = gaps_of(many, places)
                    self.assertEqual(there, plain.gaps(many, places))
                    self.assertEqual(sum(there), many - size)
                    self.assertEqual(places_of(there), (many, places))

    def test_wrong_places(self):
        for many in WRONG_MANY:
            refuses_value(self, BadParameter, many, gaps_of, many, ())
        for places in ODD + (0, (5,), (-1,), (0, 0), (1, 0), [0], (True,), (0.0,), (None,), (0, 1, 2, 3), (Spiteful(),),
                             TupleChild((0,)), (IntChild(0),)):
            refuses_value(self, BadParameter, places, gaps_of, 5, places)
        for places in ((0,), (0, 1)):
            refuses_value(self, BadParameter, places, gaps_of, 0, places)
        first_refused(self, gaps_of, (5, (0, 1)), {0: 41, 1: (1, 0)})


class PlacesOf(unittest.TestCase):
    def test_ordinary(self):
        self.assertEqual(places_of((1, 0, 0)), (3, (1, 2)))
        self.assertEqual(places_of((0,)), (0, ()))
        self.assertEqual(places_of(gaps=(40,)), (40, ()))
        self.assertEqual(places_of((39, 0)), (40, (39,)))
        self.assertEqual(places_of((0, 0, 0, 37)), (40, (0, 1, 2)))
        self.assertEqual(places_of((2, 3, 1)), (8, (2, 6)))

    def test_it_leads_back(self):
        rnd = plain.dice(21)
        for size in range(4):
            for _ in range(50):
                many = rnd.randint(size, 40)
                places = tuple(sorted(rnd.sample(range(many), size)))
                self.assertEqual(places_of(gaps_of(many, places)), (many, places))

    def test_wrong_gaps(self):
        for gaps in NO_GAPS:
            refuses_value(self, BadParameter, gaps, places_of, gaps)
        for gaps in ((40, 0), (0, 40), (39, 1), (13, 13, 13), (20, 20, 0), (0, 0, 0, 38), (40,) * 4):
            refuses_value(self, BadParameter, gaps, places_of, gaps)


class Reaches(unittest.TestCase):
    def test_just_what_can_be_carried(self):
        for size in range(4):
            for width, many in product(range(size, 6), range(size, 7)):
                for places in combinations(range(width), size):
                    for spots in combinations(range(many), size):
                        self.assertIs(reaches(plain.gaps(width, places), plain.gaps(many, spots)),
                                      plain.can_be_carried(width, places, many, spots))

    def test_the_edges(self):
        self.assertIs(reaches((40,) * 4, (40,) * 4), True)
        self.assertIs(reaches((0,) * 4, (40,) * 4), True)
        self.assertIs(reaches((40, 0), (39, 40)), False)
        self.assertIs(reaches(gaps=(0,), others=(0,)), True)

    def test_wrong_gaps(self):
        for gaps in NO_GAPS:
            refuses_value(self, BadParameter, gaps, reaches, gaps, (0, 0))
            refuses_value(self, BadParameter, gaps, reaches, (0, 0), gaps)
        for others in ((0,), (0, 0, 0)):
            refuses_value(self, BadParameter, others, reaches, (0, 0), others)
        first_refused(self, reaches, ((0, 0), (1, 1)), {0: (41, 0), 1: (1,)})


class Rows(unittest.TestCase):
    def test_ordinary(self):
        self.assertEqual(least_rows(((1, 0, 0), (0, 0, 0))), ((0, 0, 0),))
        self.assertEqual(least_rows(((2, 1), (1, 2), (2, 1), (2, 2))), ((1, 2), (2, 1)))
        self.assertEqual(least_rows(rows=()), ())
        self.assertEqual(least_rows(((12,),) * 60), ((12,),))
        self.assertEqual(joined(((2, 1, 0), (1, 2, 0))), (2, 2, 0))
        self.assertEqual(joined(rows=((0,) * 4,)), (0,) * 4)
        self.assertEqual(counted(((1, 0, 0),), 2, 3), 1)
        self.assertEqual(counted(((1, 0, 0),), 2, 4), 3)
        self.assertEqual(counted(rows=(), arity=3, many=20), 0)

    def test_sixty_rows(self):
        rows = tuple((12 - at % 13, at % 13, at % 5, at % 7) for at in range(60))
        least = [row for row in sorted(set(rows))
                 if not any(other != row and all(a <= b for a, b in zip(other, row)) for other in rows)]
        self.assertEqual(least_rows(rows), tuple(least))
        self.assertEqual(joined(rows), (12, 12, 4, 6))
        many = 20
        there = [gaps_of(many, places) for places in combinations(range(many), 3)]
        self.assertEqual(counted(rows, 3, many),
                         len([gaps for gaps in there if any(reaches(row, gaps) for row in rows)]))

    def test_rows_by_chance(self):
        for arity, rows in rows_by_chance(22, 80):
            least = least_rows(rows)
            self.assertEqual(list(least), sorted(set(least)))
            self.assertEqual(set(least), {row for row in rows if not any(
                other != row and reaches(other, row) for other in rows)})
            for many in (0, 1, 2, 5, 9):
                there = [gaps_of(many, places) for places in combinations(range(many), arity)]
                reached = [gaps for gaps in there if any(reaches(row, gaps) for row in rows)]
                self.assertEqual(counted(rows, arity, many), len(reached))
                self.assertEqual(counted(least, arity, many), len(reached))
                if rows:
                    by_each = [gaps for gaps in there if all(reaches(row, gaps) for row in rows)]
                    self.assertEqual(by_each, [gaps for gaps in there if reaches(joined(rows), gaps)])

    def test_one_row(self):
        for arity in range(4):
            for row in product((0, 1, 3), repeat=arity + 1):
                for many in range(21):
                    rest = many - sum(row)
                    self.assertEqual(counted((row,), arity, many), comb(rest, arity) if rest >= 0 else 0)

    def test_wrong_rows(self):
        for rows in NO_ROWS:
            refuses_value(self, BadParameter, rows, least_rows, rows)
            refuses_value(self, BadParameter, rows, joined, rows)
            refuses_value(self, BadParameter, rows, counted, rows, 0, 0)
        empty = ()
        refuses_value(self, BadParameter, empty, joined, empty)
        self.assertEqual(least_rows(((12,) * 4,) * 60), ((12,) * 4,))

    def test_wrong_arities_and_numbers_of_places(self):
        for arity in ODD + (-1, 4, 10 ** 30, (), (1,), IntChild(1)):
            refuses_value(self, BadParameter, arity, counted, (), arity, 0)
            refuses_value(self, BadParameter, arity, counted, ((0, 0),), arity, 0)
        for arity in (0, 2, 3):
            refuses_value(self, BadParameter, arity, counted, ((0, 0),), arity, 0)
        for many in ODD + (-1, 21, 40, 10 ** 30, (), IntChild(3)):
            refuses_value(self, BadParameter, many, counted, ((0, 0),), 1, many)
        self.assertEqual(counted(((0, 0),), 1, 20), 20)
        first_refused(self, counted, (((0, 0),), 1, 3), {0: ((13, 0),), 1: 2, 2: 21})


if __name__ == "__main__":
    unittest.main()
