"""[2], [6], [8], [22], [25], [27], [45], [46] Books modulo primes."""

import unittest

from risingsays.closing import closed_book
from risingsays.errors import BadBook, BadParameter, TooGreat
from risingsays.following import holds_at
from risingsays.formulas import value_at
from risingsays.free import free_at, free_formula, lead_rows
from risingsays.primes import at_prime, bad_primes, is_bad_prime
from risingsays.sayings import need_book
from tests import plain
from tests.odd import ODD, IntChild, Placed, first_refused, refuses_most, refuses_place, refuses_value
from tests.test_closing import SEVEN, full_book
from tests.test_tables import WRONG_BOOKS

NULL = (1, ((1, 0, (0,)),))
PLUS = (2, ((1, 0, (1,)), (1, 0, (0,))))
SUMS = (0, (1,), (PLUS,))
PRIMES = (2, 3, 5, 7, 11, 13, 17, 19, 23, 29, 31, 37, 41, 43, 47)


def some_books(seed, turns, widths=(0, 1, 2, 3), coef=4):
    """Books over the field 0; some of their COEFS have many figures or many small primes."""
    rnd = plain.dice(seed)
    for turn in range(turns):
        kinds = rnd.choice([kinds for kinds in plain.KINDS_LOTS if min(kinds) <= max(widths) and len(kinds) < 5])
        book = plain.some_book(0, kinds, rnd, rnd.randint(0, 3), widths)
        factors = (1,) if turn % 2 else (1, 2, 3, 6, 30, 10 ** 40 + 1, 2 * 3 * 5 * 7 * 11 * 13)
        told = tuple((width, tuple((term[0] * rnd.choice(factors),) + term[1:] for term in terms))
                     for width, terms in book[2])
        yield rnd, book[:2] + (told,)


def plainly_at(book, prime):
    """[45] The book with its COEFS modulo the prime."""
    told = []
    for width, terms in book[2]:
        row = {unknown: coef % prime for unknown, coef in plain.row_of(terms).items() if coef % prime}
        if row:
            told.append((width, plain.whole_terms(prime, row)))
    return (prime, book[1], tuple(told))


def leads(book, many):
    return sorted(plain.made_pivots(book, many), key=plain.UNKNOWN_KEY)


def is_let(book):
    try:
        closed_book(book)
    except TooGreat:
        return False
    return True


class AtPrime(unittest.TestCase):
    def test_ordinary(self):
        self.assertEqual(at_prime(SUMS, 2), (2, (1,), (PLUS,)))
        self.assertEqual(at_prime(book=SUMS, prime=997), (997, (1,), (PLUS,)))
        book = (0, (1,), ((2, ((6, 0, (1,)), (-4, 0, (0,)))), NULL, (1, ((10, 0, (0,)),)), (3, ((9, 0, (2,)), (1, 0, (0,))))))
        self.assertEqual(at_prime(book, 2), (2, (1,), (NULL, (3, ((1, 0, (2,)), (1, 0, (0,)))))))
        self.assertEqual(at_prime(book, 3), (3, (1,), ((2, ((1, 0, (0,)),)), NULL, NULL, (3, ((1, 0, (0,)),)))))
        self.assertEqual(at_prime(book, 5), (5, (1,), ((2, ((1, 0, (1,)), (1, 0, (0,)))), NULL,
                                                       (3, ((1, 0, (2,)), (4, 0, (0,)))))))
        self.assertEqual(at_prime((0, (1,), ()), 5), (5, (1,), ()))
        # It is not made whole over the field 0 first.
        self.assertEqual(at_prime((0, (1,), ((1, ((2, 0, (0,)),)),)), 2), (2, (1,), ()))
        great = (0, (1,), ((2, ((997 * 10 ** 60, 0, (1,)), (-10 ** 60, 0, (0,)))),))
        self.assertEqual(at_prime(great, 997), (997, (1,), ((2, ((1, 0, (0,)),)),)))
        self.assertEqual(at_prime(great, 2), (2, (1,), ()))
        self.assertEqual(at_prime(great, 3), (3, (1,), ((2, ((1, 0, (1,)), (2, 0, (0,)))),)))

    def test_coef_by_coef(self):
        for rnd, book in some_books(371, 120):
            for prime in (rnd.choice(PRIMES), 2, 3, 997, 991):
                found = at_prime(book, prime)
                self.assertEqual(found, plainly_at(book, prime))
                self.assertIs(need_book(found), found)

    def test_wrong_parameters(self):
        thirds = (3, (1,), ())
        for call in (at_prime, is_bad_prime, bad_primes):
            for place, book in WRONG_BOOKS:
                refuses_place(self, BadBook, place, call, book, None)
            for book in ODD:
                refuses_place(self, BadBook, (), call, book, 3)
            refuses_value(self, BadParameter, thirds, call, thirds, 3)
            refuses_value(self, BadParameter, thirds, call, thirds, None)
            bad = {0: Placed((BadBook, (0, (1,), (None,)), (2, 0))), 1: -1}
            first_refused(self, call, (SUMS, 3), bad)
            bad[0] = thirds
            first_refused(self, call, (SUMS, 3), bad)
        for prime in ODD + (0, 1, 4, 9, 961, 998, 1009, -2, -3, 10 ** 30, (3,), IntChild(3)):
            for call in (at_prime, is_bad_prime):
                refuses_value(self, BadParameter, prime, call, SUMS, prime)
                refuses_value(self, BadParameter, prime, call, SEVEN, prime)
        for most in ODD + (-1, 48, 997, 10 ** 30, (3,), IntChild(3)):
            refuses_value(self, BadParameter, most, bad_primes, SUMS, most)
            refuses_value(self, BadParameter, most, bad_primes, SEVEN, most)


class BadPrimes(unittest.TestCase):
    def test_the_example(self):
        self.assertEqual(bad_primes(SUMS, 47), (2,))
        self.assertEqual(bad_primes(book=SUMS, most=2), (2,))
        self.assertEqual(bad_primes(SUMS, 1), ())
        self.assertEqual(bad_primes(SUMS, 0), ())
        self.assertIs(is_bad_prime(SUMS, 2), True)
        for prime in PRIMES[1:] + (991, 997):
            self.assertIs(is_bad_prime(book=SUMS, prime=prime), False)
            self.assertEqual(closed_book(at_prime(SUMS, prime))[2], closed_book(SUMS)[2])
        self.assertEqual(closed_book(at_prime(SUMS, 2))[2], (PLUS,))

    def test_ordinary(self):
        self.assertEqual(bad_primes((0, (1,), ((1, ((2 * 3 * 47 * 53, 0, (0,)),)),)), 47), (2, 3, 47))
        self.assertEqual(bad_primes((0, (1,), ((1, ((2 * 3 * 47, 0, (0,)),)),)), 46), (2, 3))
        self.assertIs(is_bad_prime((0, (1,), ((1, ((997 * 10 ** 60, 0, (0,)),)),)), 997), True)
        # As many unknowns are free, but other ones.
        other = (0, (1, 1), ((1, ((5, 1, (0,)), (1, 0, (0,)))),))
        self.assertEqual(bad_primes(other, 47), (5,))
        self.assertEqual(free_formula(at_prime(other, 5)), free_formula(other))
        # The lead vanishes, but another saying has it.
        self.assertEqual(bad_primes((0, (1,), ((1, ((5, 0, (0,)),)), NULL)), 47), ())
        # What is the same saying but for a multiple of the prime.
        self.assertEqual(bad_primes((0, (1,), (PLUS, (2, ((1, 0, (1,)), (-6, 0, (0,)))))), 47), (7,))
        self.assertEqual(bad_primes((0, (1,), ()), 47), ())
        one = (0, (0,), ((0, ((7, 0, ()),)),))
        self.assertEqual(bad_primes(one, 47), (7,))
        self.assertEqual((lead_rows(at_prime(one, 7)), lead_rows(one)), (((),), (((0,),),)))

    def test_by_elimination(self):
        bad = good = 0
        for rnd, book in some_books(381, 80):
            told = [leads(book, many) for many in range(7)]
            found = bad_primes(book, 47)
            for prime in (2, 3, 5, 7, rnd.choice(PRIMES)):
                modulo = plainly_at(book, prime)
                unlike = any(leads(modulo, many) != told[many] for many in range(7))
                self.assertIs(is_bad_prime(book, prime), unlike, (book, prime))
                self.assertIs(prime in found, unlike)
                bad += unlike
                good += not unlike
            self.assertEqual(found, tuple(prime for prime in PRIMES if is_bad_prime(book, prime)))
            most = rnd.randint(0, 47)
            self.assertEqual(bad_primes(book, most), tuple(prime for prime in found if prime <= most))
        self.assertGreater(min(bad, good), 60)

    def test_at_least_as_many_are_free(self):
        fewer = 0
        for rnd, book in some_books(382, 80):
            for prime in (2, 3, 5, 13, 997):
                one, other = free_formula(book), free_formula(at_prime(book, prime))
                for many in range(10):
                    self.assertLessEqual(value_at(one, many), value_at(other, many))
                if one != other:
                    fewer += 1
                    self.assertIs(is_bad_prime(book, prime), True)
        self.assertGreater(fewer, 20)

    def test_what_a_good_prime_keeps(self):
        good = 0
        for rnd, book in some_books(383, 80):
            closed = closed_book(book)
            for prime in (2, 3, 5, 13, 997):
                modulo = at_prime(book, prime)
                if is_bad_prime(book, prime):
                    self.assertNotEqual(lead_rows(modulo), lead_rows(book))
                    continue
                good += 1
                self.assertEqual(lead_rows(modulo), lead_rows(book))
                self.assertEqual(free_formula(modulo), free_formula(book))
                for many in (0, 2, 5):
                    self.assertEqual(free_at(modulo, many), free_at(book, many))
                self.assertEqual(closed_book(modulo), at_prime(closed, prime))
                for (width, terms), (other_width, others) in zip(closed[2], at_prime(closed, prime)[2]):
                    self.assertEqual((width, terms[0][1:]), (other_width, others[0][1:]))
                self.assertEqual(len(at_prime(closed, prime)[2]), len(closed[2]))
                # What holds over the field 0 holds modulo the prime.
                for width in (1, 2, 3):
                    terms = plain.something_made(book, width, rnd)
                    taken = at_prime((0, book[1], ((width, terms),)), prime)[2] if terms else ()
                    for saying in taken:
                        self.assertIs(holds_at(modulo, saying, width), True)
        self.assertGreater(good, 200)

    def test_told_otherwise(self):
        for rnd, book in some_books(384, 40):
            turned = list(book[2])
            rnd.shuffle(turned)
            self.assertEqual(bad_primes(book[:2] + (tuple(turned),), 47), bad_primes(book, 47))
            self.assertEqual(bad_primes(book[:2] + (book[2] * 2,), 47), bad_primes(book, 47))

    def test_too_great(self):
        for call, more in ((is_bad_prime, (3,)), (bad_primes, (0,)), (bad_primes, (47,))):
            refuses_most(self, TooGreat, 6, call, SEVEN, *more)
        # Modulo a prime alone it is too great: the other saying vanishes there.
        book = (0, (1,), SEVEN[2] + ((1, ((5, 0, (0,)),)),))
        self.assertTrue(is_let(book))
        self.assertFalse(is_let(at_prime(book, 5)))
        refuses_most(self, TooGreat, 6, is_bad_prime, book, 5)
        self.assertIs(is_bad_prime(book, 3), False)
        self.assertEqual(bad_primes(book, 4), ())
        for most in (5, 47):
            refuses_most(self, TooGreat, 6, bad_primes, book, most)
        # Over the field 0 alone: modulo the prime nothing, or something less, is said.
        book = (0, (1,), ((6, ((5, 0, (5,)), (-5, 0, (0,)))),))
        self.assertTrue(is_let(at_prime(book, 5)))
        refuses_most(self, TooGreat, 6, is_bad_prime, book, 5)
        # That the closed list has more than sixty members does not matter.
        full = full_book((3,) * 7)
        whole = (0,) + full[1:]
        refuses_most(self, TooGreat, 60, closed_book, at_prime(whole, 997))
        self.assertIs(is_bad_prime(whole, 997), False)


if __name__ == "__main__":
    unittest.main()
