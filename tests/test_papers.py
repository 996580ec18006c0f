"""[8], [9], [24] Papers of closed lists."""

import unittest

from risingsays.closing import closed_book
from risingsays.errors import BadBook, TooGreat
from risingsays.making import is_made_of, made_of
from risingsays.papers import closed_paper, is_closed_paper
from risingsays.sayings import need_book
from tests import plain
from tests.odd import ODD, Spiteful, TupleChild, refuses_most, refuses_place
from tests.test_bringing import some_books
from tests.test_closing import EIGHT, SEVEN, full_book
from tests.test_making import HALVES, NO_PARTS, NO_TRIPLES
from tests.test_tables import WRONG_BOOKS

SUMS = (0, (1,), ((2, ((1, 0, (1,)), (1, 0, (0,)))),))
PAIRS = (0, (2,), ((3, ((1, 0, (1, 2)), (-1, 0, (0, 2)), (1, 0, (0, 1)))),))
ONE = (1, 1)
FIRST = (2, ((1, 0, (1,)), (1, 0, (0,))))
LAST = (3, ((1, 0, (0,)),))
WHOLE = ((ONE, 0, (0, 1)),)
PAPER = ((FIRST, LAST), (WHOLE, HALVES))


class ClosedPaper(unittest.TestCase):
    def test_the_example(self):
        self.check_paper(SUMS)
        self.assertIs(is_closed_paper(SUMS, PAPER), True)
        self.assertEqual(closed_paper(book=PAIRS), (PAIRS[2], ((((1, 1), 0, (0, 1, 2)),),)))

    def check_paper(self, book):
        paper = closed_paper(book)
        members, lists = paper
        self.assertEqual(members, closed_book(book)[2])
        self.assertEqual(len(lists), len(members))
        for (width, terms), parts in zip(members, lists):
            self.assertEqual(plain.parts_row(book, width, parts), plain.row_of(terms))
            self.assertIs(is_made_of(book, width, terms, parts), True)
            made_of(book, width, terms)
        self.assertIs(is_closed_paper(book, paper), True)
        self.assertIs(is_closed_paper(book=book, value=paper), True)
        self.assertEqual(closed_paper(book), paper)
        return paper

    def test_ordinary(self):
        for _, book in some_books(91, 150, (0, 1, 2, 3, 4), (0, 1, 2, 3)):
            try:
                closed_book(book)
            except TooGreat:
                refuses_most(self, TooGreat, 6, closed_paper, book)
            else:
                self.check_paper(book)

    def test_no_sayings(self):
        self.assertEqual(closed_paper((0, (3, 1), ())), ((), ()))
        self.assertIs(is_closed_paper((0, (3, 1), ()), ((), ())), True)

    def test_sixty_members(self):
        self.assertEqual(len(self.check_paper(full_book((3,) * 5))[0]), 60)

    def test_too_great(self):
        refuses_most(self, TooGreat, 60, closed_paper, full_book((3,) * 6))
        refuses_most(self, TooGreat, 6, closed_paper, SEVEN)
        refuses_most(self, TooGreat, 6, closed_paper, EIGHT)

    def test_wrong_books(self):
        for call, more in ((closed_paper, ()), (is_closed_paper, (PAPER,)), (is_closed_paper, (None,))):
            for place, book in WRONG_BOOKS:
                refuses_place(self, BadBook, place, call, book, *more)
            for book in ODD:
                refuses_place(self, BadBook, (), call, book, *more)


class IsClosedPaper(unittest.TestCase):
    def test_papers_of_others(self):
        twice = (2, ((2, 0, (1,)), (2, 0, (0,))))
        needless = (3, ((1, 0, (2,)), (1, 0, (1,))))
        unfinished = (3, ((1, 0, (2,)), (-1, 0, (0,))))
        three = (4, ((-3, 0, (0,)),))
        thrice = tuple(((-3 * n, d), at, places) for (n, d), at, places in HALVES)
        differ = ((ONE, 0, (1, 2)), ((-1, 1), 0, (0, 1)))
        right = (((LAST, FIRST), (HALVES, WHOLE)),
                 ((twice, LAST), ((((2, 1), 0, (0, 1)),), HALVES)),
                 ((FIRST, FIRST, LAST, LAST), (WHOLE, WHOLE, HALVES, HALVES)),
                 ((FIRST, LAST, needless), (WHOLE, HALVES, ((ONE, 0, (1, 2)),))),
                 ((unfinished, needless, LAST, FIRST), (differ, ((ONE, 0, (1, 2)),), HALVES, WHOLE)),
                 ((three, FIRST, LAST), (thrice, WHOLE, HALVES)),
                 ((FIRST,) * 30 + (LAST,) * 30, (WHOLE,) * 30 + (HALVES,) * 30))
        for paper in right:
            for saying in paper[0]:
                need_book((0, (1,), (saying,)))
            self.assertIs(is_closed_paper(SUMS, paper), True, paper)

    def test_what_is_not_right(self):
        differ = (3, ((1, 0, (1,)), (-1, 0, (0,))))
        differs = ((ONE, 0, (1, 2)), ((-1, 1), 0, (0, 2)))
        self.assertIs(is_made_of(SUMS, 3, differ[1], differs), True)
        values = [
            # Not closed; the book is not brought to nothing; members that are not made; lists of other members.
            ((FIRST,), (WHOLE,)), ((FIRST, differ), (WHOLE, differs)), ((LAST,), (HALVES,)), ((), ()),
            ((FIRST, (2, ((1, 0, (0,)),))), (WHOLE, HALVES)), ((FIRST, (1, ((1, 0, (0,)),))), (WHOLE, ())),
            ((FIRST, LAST), (HALVES, WHOLE)), ((FIRST, LAST), (WHOLE, ())), ((FIRST, LAST), ((), HALVES)),
            ((FIRST, LAST), (WHOLE,)), ((FIRST, LAST), (WHOLE, HALVES, HALVES)), ((FIRST, LAST), ()),
            ((FIRST, LAST), (WHOLE, HALVES), ()), ((FIRST, LAST),), (FIRST, LAST), (PAPER[1], PAPER[0]),
            ((FIRST,) * 31 + (LAST,) * 30, (WHOLE,) * 31 + (HALVES,) * 30),
            ((FIRST, (7, ((1, 0, (0,)),))), PAPER[1]), ((FIRST, (3, ())), (WHOLE, ())),
            ((FIRST, (3, ((1, 1, (0,)),))), PAPER[1]), ((FIRST, (3, ((1, 0, (0,)), (1, 0, (1,))))), PAPER[1]),
        ]
        for value in values:
            self.assertIs(is_closed_paper(SUMS, value), False, value)
        self.assertIs(is_closed_paper((2,) + SUMS[1:], PAPER), False)
        self.assertIs(is_closed_paper((2,) + SUMS[1:], ((FIRST,), (WHOLE,))), True)
        self.assertIs(is_closed_paper(PAIRS, PAPER), False)
        self.assertIs(is_closed_paper((0, (1,), ()), ((FIRST,), (WHOLE,))), False)

    def test_values_of_odd_kinds(self):
        for value in ODD + NO_PARTS + NO_TRIPLES:
            self.assertIs(is_closed_paper(SUMS, value), False)
            self.assertIs(is_closed_paper(SUMS, (value, PAPER[1])), False)
            self.assertIs(is_closed_paper(SUMS, (PAPER[0], value)), False)
            self.assertIs(is_closed_paper(SUMS, ((FIRST, value), PAPER[1])), False)
            self.assertIs(is_closed_paper(SUMS, (((2, value), LAST), PAPER[1])), False)
            self.assertIs(is_closed_paper(SUMS, (((value, FIRST[1]), LAST), PAPER[1])), False)
            self.assertIs(is_closed_paper(SUMS, (PAPER[0], (WHOLE, (value,)))), False)
        for value in NO_PARTS:
            self.assertIs(is_closed_paper(SUMS, (PAPER[0], (WHOLE, value))), False)
        self.assertIs(is_closed_paper(SUMS, list(PAPER)), False)
        self.assertIs(is_closed_paper(SUMS, TupleChild(PAPER)), False)
        self.assertIs(is_closed_paper(SUMS, (list(PAPER[0]), PAPER[1])), False)
        self.assertIs(is_closed_paper(SUMS, (PAPER[0], list(PAPER[1]))), False)
        self.assertIs(is_closed_paper(SUMS, (TupleChild(PAPER[0]), PAPER[1])), False)
        self.assertIs(is_closed_paper(SUMS, (PAPER[0], (WHOLE, Spiteful()))), False)

    def test_two_thousand_triples(self):
        pad = (((0, 1), 0, (0, 1)),)
        self.assertIs(is_closed_paper(SUMS, (PAPER[0], (WHOLE, HALVES + pad * 1997))), True)
        self.assertIs(is_closed_paper(SUMS, (PAPER[0], (WHOLE, HALVES + pad * 1998))), False)
        self.assertIs(is_closed_paper(SUMS, (PAPER[0], (WHOLE + pad * 2000, HALVES))), False)

    def test_closed_lists_that_are_too_great(self):
        # No paper can be right; the judge refuses nothing.
        self.assertIs(is_closed_paper(SEVEN, (SEVEN[2], ((((1, 1), 0, tuple(range(6))),),))), False)
        self.assertIs(is_closed_paper(EIGHT, PAPER), False)

    def test_bent_by_chance(self):
        right = wrong = 0
        for rnd, book in some_books(92, 60, (1, 2, 3), (1, 2, 3)):
            members, lists = closed_paper(book)
            pairs = list(zip(members, lists))
            for _ in range(3):
                some = [pair for pair in pairs if rnd.random() < 0.9]
                rnd.shuffle(some)
                value = (tuple(pair[0] for pair in some), tuple(pair[1] for pair in some))
                told = len(some) == len(pairs)
                right += told
                wrong += not told
                self.assertIs(is_closed_paper(book, value), told)
        self.assertGreater(right, 50)
        self.assertGreater(wrong, 20)


if __name__ == "__main__":
    unittest.main()
