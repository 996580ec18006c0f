"""[2], [14] Numbers."""

import unittest
from fractions import Fraction

from risingsays.errors import BadParameter
from risingsays.numbers import minus, need_number, number_of, over, plus, times
from tests.odd import ODD, IntChild, Spiteful, TupleChild, first_refused, refuses_value

PRIMES = [p for p in range(2, 998) if all(p % k for k in range(2, p))]
WRONG_FIELDS = ODD + (-1, 1, 4, 9, 25, 289, 841, 899, 961, 991 + 2, 998, 1009, -2, 10 ** 40, IntChild(2), (), (2,))
WRONG_NUMBERS = {
    0: ODD + ((), (1,), (1, 1, 1), 1, 0, (1, 0), (1, -1), (2, 2), (0, 2), (0, 0), (0, -1), (4, 6), (-3, 3),
              (True, 1), (1, True), (1.0, 1), (1, 1.0), ("1", 1), [1, 1], (None, 1), ((1, 1), 1), (Spiteful(), 1),
              (1, Spiteful()), TupleChild((1, 1)), (IntChild(1), 1)),
    2: ODD + ((2, 1), (-1, 1), (1, 2), (1, 0), (0, 2), (1, -1), (3, 1), (True, 1), (0, True), [1, 1], (1,), 1),
    5: ODD + ((5, 1), (-1, 1), (1, 2), (10, 2), (6, 1), (1, 3), (4, True), (4.0, 1), (4,), 4),
    997: ODD + ((997, 1), (-1, 1), (1, 2), (998, 1), (10 ** 50, 1)),
}
SOME = [Fraction(n, d) for n in range(-6, 7) for d in range(1, 6)] + [Fraction(10 ** 60, 7), Fraction(-7, 10 ** 40 + 3)]


def told(fraction):
    return (fraction.numerator, fraction.denominator)


class Fields(unittest.TestCase):
    def test_all_fields_are_let(self):
        for field in [0] + PRIMES:
            self.assertEqual(number_of(field, 1, 1), (1, 1))
        self.assertEqual(len(PRIMES), 168)

    def test_no_other_integer_is(self):
        for field in range(-10, 1100):
            if field != 0 and field not in PRIMES:
                refuses_value(self, BadParameter, field, number_of, field, 1, 1)

    def test_wrong_fields(self):
        for field in WRONG_FIELDS:
            refuses_value(self, BadParameter, field, number_of, field, 1, 1)
            refuses_value(self, BadParameter, field, need_number, field, (1, 1))
            for call in (plus, minus, times, over):
                refuses_value(self, BadParameter, field, call, field, (1, 1), (1, 1))


class NumberOf(unittest.TestCase):
    def test_fractions(self):
        for above in range(-12, 13):
            for below in list(range(-12, 0)) + list(range(1, 13)):
                self.assertEqual(number_of(0, above, below), told(Fraction(above, below)))
        self.assertEqual(number_of(0, 0, -7), (0, 1))
        self.assertEqual(number_of(field=0, above=6, below=-4), (-3, 2))
        self.assertEqual(number_of(0, 3 * 10 ** 1000, -6 * 10 ** 999), (-5, 1))

    def test_primes(self):
        for prime in (2, 3, 5, 7, 13, 997):
            for above in list(range(-20, 21)) + [10 ** 50]:
                for below in (1, 2, 3, -1, -4, 6, prime - 1, prime + 1, 10 ** 40 + 1):
                    if below % prime != 0:
                        number, one = number_of(prime, above, below)
                        self.assertEqual(one, 1)
                        self.assertIn(number, range(prime))
                        self.assertEqual((number * below - above) % prime, 0)

    def test_wrong_integers(self):
        for value in ODD + ((), (1, 1), IntChild(3)):
            for field in (0, 2, 997):
                refuses_value(self, BadParameter, value, number_of, field, value, 1)
                refuses_value(self, BadParameter, value, number_of, field, 1, value)
                refuses_value(self, BadParameter, value, number_of, field, value, 0)

    def test_nought_below(self):
        for field, below in ((0, 0), (2, 0), (2, 4), (2, -2), (997, 997), (997, -1994), (5, 10 ** 30)):
            refuses_value(self, BadParameter, below, number_of, field, 1, below)
            refuses_value(self, BadParameter, below, number_of, field, 0, below)

    def test_the_first_wrong_one_is_told(self):
        first_refused(self, number_of, (0, 1, 2), {0: 4, 1: "1", 2: 0})
        first_refused(self, number_of, (7, 1, 2), {0: [], 1: None, 2: 14})


class NeedNumber(unittest.TestCase):
    def test_what_is_let_is_returned_as_it_was(self):
        for field, values in ((0, ((0, 1), (1, 1), (-3, 7), (10 ** 50, 3))), (2, ((0, 1), (1, 1))),
                              (997, ((0, 1), (996, 1)))):
            for value in values:
                self.assertIs(need_number(field, value), value)

    def test_what_is_none_is_refused(self):
        for field, values in WRONG_NUMBERS.items():
            for value in values:
                refuses_value(self, BadParameter, value, need_number, field, value)

    def test_just_the_numbers(self):
        for above in range(-7, 8):
            for below in range(-7, 8):
                if below > 0 and told(Fraction(above, below)) == (above, below):
                    self.assertEqual(need_number(0, (above, below)), (above, below))
                else:
                    self.assertRaises(BadParameter, need_number, 0, (above, below))
                if below == 1 and above in range(5):
                    self.assertEqual(need_number(5, (above, below)), (above, below))
                else:
                    self.assertRaises(BadParameter, need_number, 5, (above, below))

    def test_the_first_wrong_one_is_told(self):
        first_refused(self, need_number, (0, (1, 1)), {0: 6, 1: (2, 2)})


class Reckoning(unittest.TestCase):
    def test_fractions(self):
        for one in SOME:
            for other in SOME:
                pair = (told(one), told(other))
                self.assertEqual(plus(0, *pair), told(one + other))
                self.assertEqual(minus(0, *pair), told(one - other))
                self.assertEqual(times(0, *pair), told(one * other))
                if other != 0:
                    self.assertEqual(over(0, *pair), told(one / other))

    def test_primes(self):
        for prime in (2, 3, 7, 11):
            for one in range(prime):
                for other in range(prime):
                    pair = ((one, 1), (other, 1))
                    self.assertEqual(plus(prime, *pair), ((one + other) % prime, 1))
                    self.assertEqual(minus(prime, *pair), ((one - other) % prime, 1))
                    self.assertEqual(times(prime, *pair), (one * other % prime, 1))
                    if other:
                        self.assertEqual(times(prime, over(prime, *pair), (other, 1)), (one, 1))

    def test_each_inverse_modulo_each_prime(self):
        for prime in PRIMES:
            for number in (1, 2 % prime or 1, prime // 2 or 1, prime - 1):
                told_one = over(prime, (1, 1), (number, 1))
                self.assertEqual(told_one[1], 1)
                self.assertIn(told_one[0], range(prime))
                self.assertEqual(told_one[0] * number % prime, 1)

    def test_names_and_plain_kinds(self):
        self.assertEqual(over(field=0, one=(1, 2), other=(-1, 3)), (-3, 2))
        self.assertEqual(minus(field=5, one=(1, 1), other=(4, 1)), (2, 1))
        self.assertEqual(plus(field=2, one=(1, 1), other=(1, 1)), (0, 1))
        self.assertEqual(times(field=0, one=(0, 1), other=(-5, 3)), (0, 1))
        self.assertEqual(need_number(field=0, value=(1, 2)), (1, 2))
        self.assertIs(type(minus(997, (0, 1), (0, 1))), tuple)

    def test_wrong_numbers(self):
        for field, values in WRONG_NUMBERS.items():
            for value in values:
                for call in (plus, minus, times, over):
                    refuses_value(self, BadParameter, value, call, field, value, (1, 1))
                    refuses_value(self, BadParameter, value, call, field, (1, 1), value)
                    refuses_value(self, BadParameter, value, call, field, value, (0, 1))

    def test_over_nought(self):
        for field in (0, 2, 997):
            nought = (0, 1)
            refuses_value(self, BadParameter, nought, over, field, (1, 1), nought)
            refuses_value(self, BadParameter, nought, over, field, (0, 1), nought)

    def test_the_first_wrong_one_is_told(self):
        for call in (plus, minus, times, over):
            first_refused(self, call, (0, (1, 1), (1, 2)), {0: 1, 1: (2, 2), 2: (0, 2)})
            first_refused(self, call, (3, (1, 1), (2, 1)), {0: True, 1: (3, 1), 2: [1, 1]})
        first_refused(self, over, (3, (1, 1), (2, 1)), {0: 10, 1: (-1, 1), 2: (0, 1)})


if __name__ == "__main__":
    unittest.main()
