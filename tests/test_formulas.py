"""[19] Formulas."""

import unittest
from math import comb

from risingsays.errors import BadParameter
from risingsays.formulas import equal_from, formula_minus, formula_of, formula_plus, value_at
from risingsays.gaps import counted, joined, least_rows
from tests import plain
from tests.odd import ODD, IntChild, Spiteful, TupleChild, first_refused, refuses_value
from tests.test_gaps import NO_ROWS, rows_by_chance

NOTHING = ((), (0, 0, 0, 0))
MOST = 10 ** 30
NO_FORMULAS = ODD + (0, (), ((),), ((), (0, 0, 0)), ((), (0,) * 5), ([], (0,) * 4), ((), [0] * 4), ((0,), (0,) * 4),
                     ((1,), (1, 0, 0, 0)), ((5, 1), (0, 1, 0, 0)), ((1.0,), (0,) * 4), ((True,), (0,) * 4),
                     ((), (0, 0, 0, True)), ((), (0, 0, 0, None)), ((None, 1), (0,) * 4), ((1,) * 401, (0,) * 4),
                     ((), (0,) * 4, 0), [(), (0,) * 4], ((Spiteful(), 1), (0,) * 4), TupleChild(((), (0,) * 4)),
                     ((IntChild(1),), (0,) * 4), (None, (0,) * 4), ((), None), ((7, 3), (0, 3, 1, 9)))


def told(formula, many):
    values, coefs = formula
    if many < len(values):
        return values[many]
    return sum(coef * comb(many, at) for at, coef in enumerate(coefs))


def some_formula(rnd, most=6):
    coefs = tuple(rnd.randint(-3, 3) for _ in range(4))
    values = [rnd.randint(-5, 5) for _ in range(rnd.randint(0, most))]
    while values and values[-1] == told(((), coefs), len(values) - 1):
        values.pop()
    return (tuple(values), coefs)


def is_short(formula):
    values, coefs = formula
    return not values or values[-1] != told(((), coefs), len(values) - 1)


class FormulaOf(unittest.TestCase):
    def test_the_examples(self):
        self.assertEqual(formula_of(((1, 0, 0),), 2), ((0,), (1, -1, 1, 0)))
        self.assertEqual(formula_of(((1, 0, 0), (0, 0, 0)), 2), ((), (0, 0, 1, 0)))

    def test_what_is_not_reached_in_the_opening_examples(self):
        # The pairs (0, J) are free: n - 1 from n = 1 on, none for n = 0.
        self.assertEqual(formula_minus(((), (0, 0, 1, 0)), formula_of(((1, 0, 0),), 2)), ((0,), (-1, 1, 0, 0)))
        # One place is free on one and on two places, none from three on; modulo 2 one from one place on.
        every = ((), (0, 1, 0, 0))
        self.assertEqual(formula_minus(every, formula_of(((1, 0), (0, 2)), 1)), ((0, 1, 1), (0, 0, 0, 0)))
        self.assertEqual(formula_minus(every, formula_of(((1, 0),), 1)), ((0,), (1, 0, 0, 0)))

    def test_no_rows(self):
        for arity in range(4):
            self.assertEqual(formula_of(rows=(), arity=arity), NOTHING)

    def test_one_place_or_none(self):
        self.assertEqual(formula_of(((0,),), 0), ((), (1, 0, 0, 0)))
        self.assertEqual(formula_of(((12,),), 0), ((0,) * 12, (1, 0, 0, 0)))
        self.assertEqual(formula_of(((2, 1),), 1), ((0,) * 3, (-3, 1, 0, 0)))
        self.assertEqual(formula_of(((0,) * 4,), 3), ((), (0, 0, 0, 1)))

    def test_it_tells_what_is_counted(self):
        for arity, rows in rows_by_chance(31, 80):
            formula = formula_of(rows, arity)
            self.assertTrue(is_short(formula))
            for many in range(21):
                self.assertEqual(value_at(formula, many), counted(rows, arity, many))
            self.assertEqual(formula, formula_of(least_rows(rows), arity))
            self.assertEqual(formula[1][arity + 1:], (0,) * (3 - arity))
            if rows:
                self.assertEqual(formula[1][arity], 1)
                self.assertLessEqual(len(formula[0]), sum(joined(rows)))

    def test_far_numbers(self):
        for row in ((12, 12, 12, 12), (0, 12, 0, 5), (3, 0, 0, 0)):
            formula = formula_of((row,), 3)
            for many in range(60):
                rest = many - sum(row)
                self.assertEqual(value_at(formula, many), comb(rest, 3) if rest >= 0 else 0)
        formula = formula_of(((12, 0, 0, 0), (0, 12, 0, 0), (0, 0, 12, 0), (0, 0, 0, 12)), 3)
        for many in (0, 12, 15, 30, 47, 48, 49, 55):
            # Reached by none are just those all of whose gaps are less than 12.
            free = len([1 for one in range(12) for two in range(12) for three in range(12)
                        if 0 <= many - 3 - one - two - three < 12])
            self.assertEqual(value_at(formula, many), comb(many, 3) - free)

    def test_sixty_rows(self):
        rows = tuple((12 - at % 13, at % 13, at % 5, at % 7) for at in range(60))
        formula = formula_of(rows, 3)
        for many in range(21):
            self.assertEqual(value_at(formula, many), counted(rows, 3, many))
        self.assertEqual(formula[1][3], 1)
        self.assertLessEqual(len(formula[0]), 34)

    def test_wrong_parameters(self):
        for rows in NO_ROWS:
            refuses_value(self, BadParameter, rows, formula_of, rows, 0)
        for arity in ODD + (-1, 4, 0, 2, (), IntChild(1)):
            refuses_value(self, BadParameter, arity, formula_of, ((0, 0),), arity)
        for arity in ODD + (-1, 4):
            refuses_value(self, BadParameter, arity, formula_of, (), arity)
        first_refused(self, formula_of, (((0, 0),), 1), {0: ((0, 13),), 1: 2})


class ValueAt(unittest.TestCase):
    def test_ordinary(self):
        formula = ((7, -2), (1, 2, 3, 4))
        self.assertEqual([value_at(formula, many) for many in range(5)], [7, -2, 8, 20, 43])
        self.assertEqual(value_at(formula=NOTHING, many=0), 0)
        self.assertEqual(value_at(((), (0, 0, 0, 1)), 2), 0)

    def test_far_numbers(self):
        self.assertEqual(value_at(((), (1, 1, 1, 1)), MOST),
                         1 + MOST + MOST * (MOST - 1) // 2 + MOST * (MOST - 1) * (MOST - 2) // 6)
        self.assertEqual(value_at(((5,), (-10 ** 90, 0, 0, 0)), MOST), -10 ** 90)
        self.assertEqual(value_at(((1,) * 400, (0,) * 4), 399), 1)
        self.assertEqual(value_at(((1,) * 400, (0,) * 4), 400), 0)

    def test_wrong_parameters(self):
        for formula in NO_FORMULAS:
            refuses_value(self, BadParameter, formula, value_at, formula, 0)
        for many in ODD + (-1, MOST + 1, (), IntChild(3)):
            refuses_value(self, BadParameter, many, value_at, NOTHING, many)
        first_refused(self, value_at, (NOTHING, 0), {0: ((0,), (0,) * 4), 1: -1})


class Sums(unittest.TestCase):
    def test_ordinary(self):
        one = ((1, 2), (0, 1, 0, 0))
        other = ((0, 0, 5), (1, 0, 0, 0))
        self.assertEqual(formula_plus(one, other), ((1, 2, 7), (1, 1, 0, 0)))
        self.assertEqual(formula_minus(one, other), ((1, 2, -3), (-1, 1, 0, 0)))
        self.assertEqual(formula_minus(one=one, other=one), NOTHING)
        self.assertEqual(formula_plus(one=one, other=NOTHING), one)
        self.assertEqual(formula_plus(((3,), (0,) * 4), ((-3,), (0,) * 4)), NOTHING)

    def test_they_tell_the_sums_and_are_short(self):
        rnd = plain.dice(32)
        for _ in range(300):
            one, other = some_formula(rnd), some_formula(rnd)
            more, less = formula_plus(one, other), formula_minus(one, other)
            self.assertTrue(is_short(more) and is_short(less))
            self.assertEqual(formula_minus(more, other), one)
            self.assertEqual(formula_plus(less, other), one)
            for many in (0, 1, 2, 3, 5, 8, 1000):
                self.assertEqual(value_at(more, many), told(one, many) + told(other, many))
                self.assertEqual(value_at(less, many), told(one, many) - told(other, many))

    def test_four_hundred_values(self):
        one = (tuple(range(400)), (0,) * 4)
        other = (tuple(range(399)) + (398,), (0,) * 4)
        self.assertEqual(formula_minus(one, other), ((0,) * 399 + (1,), (0,) * 4))
        self.assertEqual(formula_plus(one, one)[0], tuple(range(0, 800, 2)))
        self.assertEqual(equal_from(one, other), 400)

    def test_equal_from(self):
        one = ((1, 2, 3), (0, 1, 0, 0))
        self.assertEqual(equal_from(one, one), 0)
        self.assertEqual(equal_from(((4,), (0,) * 4), ((5,), (0,) * 4)), 1)
        self.assertEqual(equal_from(((4, 7, 9), (0,) * 4), ((5, 8, 9), (0,) * 4)), 2)
        self.assertEqual(equal_from(((4,), (0, 1, 0, 0)), ((), (0, 1, 0, 0))), 1)
        self.assertEqual(equal_from(one=((4, 4, 4), (0, 1, 0, 0)), other=((), (0, 1, 0, 0))), 3)
        self.assertIsNone(equal_from(((), (0, 0, 0, 1)), NOTHING))
        self.assertIsNone(equal_from(((), (1, 0, 0, 0)), ((), (0, 0, 0, 0))))
        self.assertIsNone(equal_from(((4,), (0, 0, 0, 1)), ((4,), (0, 0, 1, 1))))

    def test_equal_from_by_chance(self):
        rnd = plain.dice(33)
        for _ in range(300):
            one = some_formula(rnd)
            other = some_formula(rnd)
            if rnd.randint(0, 3):
                values = list(other[0])
                while values and values[-1] == told(((), one[1]), len(values) - 1):
                    values.pop()
                other = (tuple(values), one[1])
            found = equal_from(one, other)
            if one[1] != other[1]:
                self.assertIsNone(found)
            else:
                unlike = [many for many in range(20) if told(one, many) != told(other, many)]
                self.assertEqual(found, unlike[-1] + 1 if unlike else 0)

    def test_wrong_parameters(self):
        for call in (formula_plus, formula_minus, equal_from):
            for formula in NO_FORMULAS:
                refuses_value(self, BadParameter, formula, call, formula, NOTHING)
                refuses_value(self, BadParameter, formula, call, NOTHING, formula)
            first_refused(self, call, (NOTHING, NOTHING), {0: ((), (0,) * 3), 1: ((0,), (0,) * 4)})


if __name__ == "__main__":
    unittest.main()
