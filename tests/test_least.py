"""[6], [8], [39] to [41] Books as few as can be, and sayings that are needless."""

import unittest

from risingsays.closing import closed_book
from risingsays.errors import BadBook, BadParameter, TooGreat
from risingsays.least import is_least, least_book, needless, new_by_width, without
from risingsays.pairing import alike_from, both
from risingsays.sayings import need_book
from tests import plain
from tests.odd import (ODD, IntChild, Placed, Spiteful, TupleChild, first_refused, refuses_most, refuses_place,
                       refuses_value)
from tests.test_closing import SEVEN, full_book
from tests.test_tables import WRONG_BOOKS

NULL = (1, ((1, 0, (0,)),))
PLUS = (2, ((1, 0, (1,)), (1, 0, (0,))))
LESS = (2, ((1, 0, (1,)), (-1, 0, (0,))))
THREE = (0, (1,), ((1, ((2, 0, (0,)),)), PLUS, LESS))
PAIRS = (0, (2,), ((3, ((1, 0, (1, 2)), (-1, 0, (0, 2)), (1, 0, (0, 1)))),))


def some_books(seed, turns, widths=(0, 1, 2, 3, 4), most=6):
    """Books of one to six sayings; every third one is told with carried ones and such as are said twice."""
    rnd = plain.dice(seed)
    for turn in range(turns):
        field = rnd.choice((0, 0, 2, 3, 997))
        kinds = rnd.choice([kinds for kinds in plain.KINDS_LOTS if min(kinds) <= max(widths) and len(kinds) < 5])
        book = plain.some_book(field, kinds, rnd, rnd.randint(0, most), widths)
        if turn % 3 == 2:
            book = plain.told_otherwise(book, rnd)
        if turn % 3 == 1:
            sums = [(width, plain.something_made(book, width, rnd)) for width in rnd.choices(widths, k=2)]
            told = list(book[2]) + [(width, terms) for width, terms in sums if terms]
            rnd.shuffle(told)
            book = book[:2] + (tuple(told),)
        yield rnd, book


def all_but(place, many):
    return tuple(at for at in range(many) if at != place)


def from_below(book, many):
    """What is MADE on one place fewer, carried by all rising maps, by elimination."""
    if many == 0:
        return {}
    rows = [plain.carry_row(row, all_but(place, many)) for row in plain.made_pivots(book, many - 1).values()
            for place in range(many)]
    return plain.pivots_of(book[0], rows)


def plainly_new(book):
    """[39] For each number of places the leads that come new, ascending, with the rows of all that is MADE."""
    found = []
    for many in range(7):
        pivots = plain.made_pivots(book, many)
        below = from_below(book, many)
        found.append((pivots, sorted((lead for lead in pivots if lead not in below), key=plain.UNKNOWN_KEY)))
    return found


def plainly_needless(book):
    """[41] The sayings that are left out, from the first one on."""
    field, kinds, sayings = book
    left = []
    for at, (width, terms) in enumerate(sayings):
        others = tuple(saying for other, saying in enumerate(sayings) if other != at and other not in left)
        if plain.is_made((field, kinds, others), width, terms):
            left.append(at)
    return tuple(left)


class NewByWidth(unittest.TestCase):
    def test_the_example(self):
        self.assertEqual(new_by_width(THREE), (0, 1, 0, 0, 0, 0, 0))
        self.assertEqual(new_by_width(book=THREE), (0, 1, 0, 0, 0, 0, 0))
        self.assertEqual(least_book(THREE), (0, (1,), (NULL,)))
        self.assertEqual(least_book(book=THREE), (0, (1,), (NULL,)))
        self.assertEqual(needless(THREE), (1, 2))
        self.assertEqual(needless(book=THREE), (1, 2))
        left = without(THREE, (0,))
        self.assertEqual(left, (0, (1,), (PLUS, LESS)))
        self.assertEqual(new_by_width(left), (0, 0, 2, 0, 0, 0, 0))
        self.assertEqual(least_book(left), (0, (1,), ((2, ((1, 0, (0,)),)), (2, ((1, 0, (1,)),)))))

    def test_ordinary(self):
        self.assertEqual(new_by_width((0, (1,), ())), (0,) * 7)
        self.assertEqual(new_by_width(PAIRS), (0, 0, 0, 1, 0, 0, 0))
        self.assertEqual(new_by_width((0, (1,), (PLUS,))), (0, 0, 1, 0, 0, 0, 0))
        self.assertEqual(new_by_width((2, (0,), ((0, ((1, 0, ()),)),))), (1, 0, 0, 0, 0, 0, 0))
        self.assertEqual(new_by_width((0, (0,), ((6, ((1, 0, ()),)),))), (0, 0, 0, 0, 0, 0, 1))
        # On no place nothing comes from below; what is said there is said again on one place, and so not new.
        self.assertEqual(new_by_width((0, (0,), ((0, ((1, 0, ()),)), (1, ((1, 0, ()),))))), (1, 0, 0, 0, 0, 0, 0))
        # Members of the closed list need not be new.
        self.assertEqual(len(closed_book((0, (1,), (PLUS,)))[2]), 2)
        self.assertEqual(least_book((0, (1,), (PLUS,))), (0, (1,), (PLUS,)))

    def test_by_elimination(self):
        widths = [0] * 7
        for _, book in some_books(311, 120):
            found = new_by_width(book)
            self.assertEqual(found, tuple(len(leads) for _, leads in plainly_new(book)), book)
            widths = [one + other for one, other in zip(widths, found)]
        self.assertTrue(all(count > 5 for count in widths[:5]))

    def test_wide_sayings(self):
        for _, book in some_books(312, 30, (4, 5, 6), 3):
            self.assertEqual(new_by_width(book), tuple(len(leads) for _, leads in plainly_new(book)), book)

    def test_closed_lists_do_not_count(self):
        refuses_most(self, TooGreat, 6, closed_book, SEVEN)
        self.assertEqual(new_by_width(SEVEN), (0,) * 6 + (1,))
        self.assertEqual(least_book(SEVEN), SEVEN)
        self.assertIs(is_least(SEVEN), True)
        self.assertEqual(needless(SEVEN), ())
        full = full_book((3,) * 7)
        self.assertEqual(new_by_width(full), (0,) * 5 + (28, 0))
        self.assertIs(is_least(full), True)
        self.assertEqual(without(SEVEN, (0,)), (0, (1,), ()))


class LeastBook(unittest.TestCase):
    def test_by_elimination(self):
        for _, book in some_books(321, 120):
            told = []
            for many, (pivots, leads) in enumerate(plainly_new(book)):
                told.extend((many, plain.finished_terms(book[0], pivots, lead)) for lead in leads)
            found = least_book(book)
            self.assertEqual(found, book[:2] + (tuple(told),), book)
            self.assertIs(need_book(found), found)

    def test_it_says_the_same(self):
        for _, book in some_books(322, 80):
            found = least_book(book)
            for width, terms in found[2]:
                self.assertTrue(plain.is_made(book, width, terms))
            for width, terms in book[2]:
                self.assertTrue(plain.is_made(found, width, terms))
            self.assertEqual(least_book(found), found)
            self.assertIs(is_least(found), True)
            self.assertEqual(new_by_width(found), new_by_width(book))
            self.assertEqual(needless(found), ())
            self.assertEqual(tuple(sum(saying[0] == width for saying in found[2]) for width in range(7)), new_by_width(book))

    def test_books_that_say_the_same_have_the_same(self):
        unlike = 0
        for rnd, book in some_books(323, 80):
            again = plain.told_otherwise(book, rnd)
            self.assertEqual(least_book(again), least_book(book))
            self.assertEqual(new_by_width(again), new_by_width(book))
            bent = without(book, tuple(sorted(rnd.sample(range(len(book[2])), min(1, len(book[2]))))))
            same = all(plain.is_made(bent, width, terms) for width, terms in book[2])
            self.assertIs(least_book(bent) == least_book(book), same)
            unlike += not same
        self.assertGreater(unlike, 20)

    def test_the_closed_book_is_as_good(self):
        for _, book in some_books(324, 60, (0, 1, 2, 3), 3):
            try:
                closed = closed_book(book)
            except TooGreat:
                continue
            self.assertEqual(least_book(closed), least_book(book))
            self.assertEqual(alike_from(least_book(book), book), 0)
            self.assertEqual(closed_book(least_book(book)), closed)

    def test_is_least(self):
        told = [0, 0]
        for _, book in some_books(325, 120):
            least = len(book[2]) == sum(len(leads) for _, leads in plainly_new(book))
            told[least] += 1
            self.assertIs(is_least(book), least)
            self.assertIs(is_least(book=book), needless(book) == ())
        self.assertGreater(min(told), 20)


class Needless(unittest.TestCase):
    def test_which_ones_hang_on_the_order(self):
        self.assertEqual(needless((0, (1,), (PLUS, LESS, THREE[2][0]))), (0, 1))
        self.assertEqual(needless((0, (1,), (NULL, NULL, NULL))), (0, 1))
        # What is MADE of later and of earlier ones that stay is left out, though it comes ahead of none of them.
        nought = (2, ((1, 0, (1,)),))
        self.assertEqual(needless((0, (1,), (PLUS, LESS, nought))), (0,))
        self.assertEqual(needless((0, (1,), (nought, LESS, PLUS))), (0,))
        self.assertEqual(needless((0, (1,), (PLUS, PLUS, LESS))), (0,))
        self.assertEqual(needless((2, (1,), (PLUS, (3, ((1, 0, (2,)), (1, 0, (0,)))), PLUS))), (0, 1))
        # Later ones of more places make nothing on fewer.
        self.assertEqual(needless((0, (1,), (NULL, (2, ((1, 0, (1,)),)), (3, ((1, 0, (0,)),))))), (1, 2))
        self.assertEqual(needless((0, (1,), ((3, ((1, 0, (0,)),)), (2, ((1, 0, (1,)),)), PLUS))), (0,))
        self.assertEqual(needless((0, (1,), ())), ())

    def test_word_for_word(self):
        some = 0
        for _, book in some_books(331, 150):
            found = needless(book)
            self.assertEqual(found, plainly_needless(book), book)
            some += len(found) > 0
        self.assertGreater(some, 60)

    def test_what_stays(self):
        for _, book in some_books(332, 80):
            left = without(book, needless(book))
            for width, terms in book[2]:
                self.assertTrue(plain.is_made(left, width, terms))
            for at, (width, terms) in enumerate(left[2]):
                self.assertFalse(plain.is_made(without(left, (at,)), width, terms))
            self.assertIs(is_least(left), True)
            self.assertEqual(needless(left), ())
            self.assertEqual(least_book(left), least_book(book))
            self.assertEqual(tuple(sum(saying[0] == width for saying in left[2]) for width in range(7)), new_by_width(book))

    def test_many_sayings(self):
        sixty = (0, (1,), (NULL,) * 60)
        self.assertEqual(needless(sixty), tuple(range(59)))
        self.assertEqual(new_by_width(sixty), (0, 1, 0, 0, 0, 0, 0))
        self.assertIs(is_least(sixty), False)
        rnd = plain.dice(333)
        book = (997, (1, 2), tuple(plain.some_saying(997, (1, 2), rnd, (2, 3), 6) for _ in range(60)))
        self.assertEqual(needless(book), plainly_needless(book))

    def test_both_at_once(self):
        for _, one in some_books(334, 30, (0, 1, 2, 3), 3):
            other = least_book(one)
            together = one[:2] + (one[2] + other[2],)
            # The later ones stay.
            self.assertEqual(needless(together), tuple(range(len(one[2]))))
            try:
                self.assertEqual(both(one, other), closed_book(one))
            except TooGreat:
                pass


class Without(unittest.TestCase):
    def test_ordinary(self):
        self.assertEqual(without(THREE, ()), THREE)
        self.assertEqual(without(book=THREE, lot=(0, 2)), (0, (1,), (PLUS,)))
        self.assertEqual(without(THREE, (0, 1, 2)), (0, (1,), ()))
        self.assertEqual(without((0, (1,), ()), ()), (0, (1,), ()))

    def test_wrong_parameters(self):
        for lot in ODD + (0, (3,), (-1,), (0, 0), (1, 0), (0, 1, 2, 3), (True,), (False,), (IntChild(1),), (None,), (0.0,), [0],
                          ("0",), TupleChild((0,)), (Spiteful(),), (0, Spiteful()), (10 ** 30,), ((0,),)):
            refuses_value(self, BadParameter, lot, without, THREE, lot)
        refuses_value(self, BadParameter, (0,), without, (0, (1,), ()), (0,))
        first_refused(self, without, (THREE, (0,)), {0: Placed((BadBook, (0, (1,), (None,)), (2, 0))), 1: (3,)})

    def test_wrong_books(self):
        for call, more in ((new_by_width, ()), (least_book, ()), (is_least, ()), (needless, ()), (without, (None,))):
            for place, book in WRONG_BOOKS:
                refuses_place(self, BadBook, place, call, book, *more)
            for book in ODD:
                refuses_place(self, BadBook, (), call, book, *more)


if __name__ == "__main__":
    unittest.main()
