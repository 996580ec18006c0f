"""[5], [6], [8], [13], [22], [33], [35] What holds of some places of all tables that keep a book on more places."""

import unittest

from risingsays.closing import closed_book
from risingsays.errors import BadBook, BadParameter, TooGreat
from risingsays.going import endless, going, going_back, going_both, rest_of
from risingsays.sayings import need_book
from risingsays.tables import keeps, table_part
from tests import plain
from tests.odd import (ODD, IntChild, Placed, first_refused, refuses_most, refuses_place, refuses_value)
from tests.test_closing import SEVEN, full_book
from tests.test_tables import WRONG_BOOKS, WRONG_MANY

ENDS_ALIKE = (0, (1,), ((3, ((1, 0, (2,)), (-1, 0, (0,)))),))
ALL_ALIKE = (0, (1,), ((2, ((1, 0, (1,)), (-1, 0, (0,)))),))
PAIRS = (0, (2,), ((3, ((1, 0, (1, 2)), (-1, 0, (0, 2)), (1, 0, (0, 1)))),))
SUMS = (0, (1,), ((2, ((1, 0, (1,)), (1, 0, (0,)))),))
NULLS = (0, (1,), ((1, ((1, 0, (0,)),)),))
WRONG_MORE = WRONG_MANY


def some_books(seed, turns, widths=(0, 1, 2, 3)):
    rnd = plain.dice(seed)
    for _ in range(turns):
        field = rnd.choice((0, 0, 2, 3, 997))
        kinds = rnd.choice([kinds for kinds in plain.KINDS_LOTS if min(kinds) <= max(widths) and len(kinds) < 5])
        yield rnd, plain.some_book(field, kinds, rnd, rnd.choice((0, 1, 1, 2, 2)), widths)


def inner_pivots(book, ahead, many, behind):
    """Rows that span what is MADE on ahead + many + behind places of unknowns on the inner ones, as told on these."""
    def is_outer(unknown):
        return any(place < ahead or place >= ahead + many for place in unknown[1])

    pivots = plain.made_pivots(book, ahead + many + behind, lambda one: (is_outer(one), plain.UNKNOWN_KEY(one)))
    return {moved(lead, ahead): {moved(unknown, ahead): coef for unknown, coef in row.items()}
            for lead, row in pivots.items() if not is_outer(lead)}


def moved(unknown, ahead):
    return (unknown[0], tuple(place - ahead for place in unknown[1]))


def plain_going(book, ahead, behind, most):
    """The members of at most so many places if the inner rows are taken for what is MADE, by elimination."""
    return plain.members_of(book[0], lambda many: inner_pivots(book, ahead, many, behind), most)[0]


def within(members, most):
    return tuple(saying for saying in members if saying[0] <= most)


def told(call, *given):
    """What a call returns, None if it is refused as too great."""
    try:
        return call(*given)
    except TooGreat:
        return None


class Going(unittest.TestCase):
    def test_the_example(self):
        self.assertEqual(going(ENDS_ALIKE, 0), closed_book(ENDS_ALIKE))
        self.assertEqual(going(ENDS_ALIKE, 0)[2], (ENDS_ALIKE[2][0], (4, ((1, 0, (1,)), (-1, 0, (0,))))))
        self.assertEqual(going(ENDS_ALIKE, 1)[2], ((3, ((1, 0, (1,)), (-1, 0, (0,)))), (3, ((1, 0, (2,)), (-1, 0, (0,))))))
        for more in (2, 3, 6, 7, 40):
            self.assertEqual(going(ENDS_ALIKE, more), ALL_ALIKE)
        self.assertEqual(going(book=ENDS_ALIKE, more=2), ALL_ALIKE)
        self.assertEqual(endless(book=ENDS_ALIKE), ALL_ALIKE)
        self.assertEqual(rest_of(book=ENDS_ALIKE), 2)

    def test_ordinary(self):
        # What has two places behind it is nought: so with two places more all is.
        book = (3, (1,), ((3, ((2, 0, (0,)),)),))
        self.assertEqual([going(book, more)[2][0][0] for more in range(5)], [3, 2, 1, 1, 1])
        self.assertEqual(rest_of(book), 2)
        # A number of no place is one of the first places too: with as many places as asked for it is nought on none.
        book = (0, (0,), ((5, ((-4, 0, ()),)),))
        for more in range(8):
            self.assertEqual(going(book, more), (0, (0,), ((max(5 - more, 0), ((1, 0, ()),)),)))
        self.assertEqual(endless(book), (0, (0,), ((0, ((1, 0, ()),)),)))
        self.assertEqual(rest_of(book), 5)
        # As many places are struck as a member may have.
        book = (2, (0,), ((6, ((1, 0, ()),)),))
        self.assertEqual(endless(book), (2, (0,), ((0, ((1, 0, ()),)),)))
        self.assertEqual(rest_of(book), 6)
        # The places behind are struck as the lead has them, not beyond: the pair has none.
        self.assertEqual(going(PAIRS, 40), PAIRS)
        self.assertEqual(rest_of(PAIRS), 0)
        self.assertEqual(going((0, (1,), ()), 40), (0, (1,), ()))
        self.assertEqual((endless((0, (1,), ())), rest_of((0, (1,), ()))), ((0, (1,), ()), 0))
        self.assertEqual(endless(SUMS), NULLS)
        self.assertEqual(rest_of(SUMS), 2)

    def test_by_elimination(self):
        changed = 0
        for rnd, book in some_books(251, 120):
            more = rnd.randint(0, 3)
            found = going(book, more)
            self.assertIs(need_book(found), found)
            self.assertEqual((book[:2], within(found[2], 4)), (found[:2], plain_going(book, 0, more, 4)), (book, more))
            self.assertEqual(found, closed_book(found))
            changed += found != closed_book(book)
        self.assertGreater(changed, 20)

    def test_endless_by_elimination(self):
        for _, book in some_books(252, 80):
            found = endless(book)
            # No member has more than six places; three places more than these are asked for nothing.
            self.assertEqual(within(found[2], 3), plain_going(book, 0, 6, 3), book)
            self.assertEqual(found, going(book, 40))
            self.assertEqual(found, endless(found))
            rest = rest_of(book)
            for more in (0, 1, 2, 3, 4, 5, 6, 7, 40):
                self.assertIs(going(book, more) == found, more >= rest)
            self.assertEqual(rest_of(found), 0)

    def test_wide_members(self):
        refused = 0
        for rnd, book in some_books(253, 60, (3, 4, 5)):
            if told(closed_book, book) is None:
                refused += 1
                for call, more in ((going, (0,)), (going, (40,)), (endless, ()), (rest_of, ())):
                    refuses_most(self, TooGreat, 6, call, book, *more)
            else:
                more = rnd.randint(1, 2)
                self.assertEqual(within(going(book, more)[2], 5), plain_going(book, 0, more, 5), (book, more))

    def test_in_two_goes(self):
        for _, book in some_books(254, 80):
            for one in (0, 1, 2, 3):
                for other in (0, 1, 2, 5):
                    self.assertEqual(going(going(book, one), other), going(book, one + other))
            self.assertEqual(going(going(book, 13), 27), going(book, 40))
            self.assertEqual(endless(going(book, 2)), endless(book))
            self.assertEqual(going(endless(book), 3), endless(book))
            # Each one rests where the rest of the way is gone.
            self.assertEqual(rest_of(going(book, 1)), max(rest_of(book) - 1, 0))

    def test_no_member_has_more_places_than_the_closed_list(self):
        for rnd, book in some_books(255, 60):
            most = max([width for width, _ in closed_book(book)[2]], default=0)
            for more in (0, 1, 2, 40):
                self.assertTrue(all(width <= most for width, _ in going(book, more)[2]))

    def test_what_holds_for_going_on_holds_for_going_on_further(self):
        for rnd, book in some_books(256, 60):
            for more in range(4):
                further = going(book, more + 1)
                for width, terms in going(book, more)[2]:
                    self.assertTrue(plain.is_made(further, width, terms))

    def test_parts_of_tables_keep_it(self):
        for rnd, book in some_books(257, 60):
            more = rnd.randint(0, 2)
            many = rnd.randint(0, 3)
            table = plain.kept_table(book, many + more, rnd)
            self.assertTrue(keeps(going(book, more), many, table_part(book, many + more, table, tuple(range(many)))))

    def test_books_that_say_the_same(self):
        for rnd, book in some_books(258, 60):
            again = plain.told_otherwise(book, rnd)
            for more in (0, 1, 2):
                self.assertEqual(going(again, more), going(book, more))
            self.assertEqual((endless(again), rest_of(again)), (endless(book), rest_of(book)))
            self.assertEqual(going_back(again, 2), going_back(book, 2))
            self.assertEqual(going_both(again, 1, 1), going_both(book, 1, 1))

    def test_too_great(self):
        for call, more in ((going, (0,)), (going, (6,)), (endless, ()), (rest_of, ()), (going_back, (1,)),
                           (going_both, (0, 0)), (going_both, (1, 1))):
            refuses_most(self, TooGreat, 6, call, SEVEN, *more)
            refuses_most(self, TooGreat, 60, call, full_book((3,) * 6), *more)
            # The member of more than six places comes ahead.
            wide = full_book((3,) * 6 + (1,), ((6, ((1, 6, (5,)), (996, 6, (0,)))),))
            refuses_most(self, TooGreat, 6, call, wide, *more)
        # Sixty members are let, also where fewer are left.
        full = full_book((3,) * 5)
        self.assertEqual(len(going(full, 0)[2]), 60)
        self.assertEqual(within(going(full, 1)[2], 4), plain_going(full, 0, 1, 4))

    def test_wrong_parameters(self):
        for call, more in ((going, (3,)), (endless, ()), (rest_of, ()), (going_back, (3,)), (going_both, (1, 1))):
            for place, book in WRONG_BOOKS:
                refuses_place(self, BadBook, place, call, book, *more)
                refuses_place(self, BadBook, place, call, book, *[None] * len(more))
            for book in ODD:
                refuses_place(self, BadBook, (), call, book, *more)
            bad = {0: Placed((BadBook, (0, (1,), (None,)), (2, 0)))}
            bad.update({at + 1: (41, IntChild(2))[at] for at in range(len(more))})
            first_refused(self, call, (SUMS,) + more, bad)
        for more in WRONG_MORE:
            for book in (SUMS, SEVEN, full_book((3,) * 6)):
                for call in (going, going_back):
                    refuses_value(self, BadParameter, more, call, book, more)
                refuses_value(self, BadParameter, more, going_both, book, more, 0)
                refuses_value(self, BadParameter, more, going_both, book, 0, more)
                refuses_value(self, BadParameter, more, going_both, book, more, None)


class PlacesAhead(unittest.TestCase):
    def test_ordinary(self):
        # All places but the first one are alike.
        book = (0, (1,), ((3, ((1, 0, (2,)), (-1, 0, (1,)))),))
        self.assertEqual(going_back(book, 0), closed_book(book))
        self.assertEqual(going_both(book, 0, 0), closed_book(book))
        self.assertEqual(going(book, 1), closed_book(book))
        self.assertEqual(going_back(book=book, more=1), ALL_ALIKE)
        self.assertEqual(going_both(book=book, ahead=1, behind=1), ALL_ALIKE)
        self.assertEqual(going_both(book, 0, 40), book)
        last = (0, (1,), ((2, ((1, 0, (1,)),)),))
        self.assertEqual(going(last, 40), last)
        self.assertEqual(going_back(last, 1), NULLS)
        self.assertEqual(going_both(last, 0, 40), last)
        self.assertEqual(going_both(last, 40, 0), NULLS)

    def test_unlike_on_both_sides(self):
        # A place with one ahead and two behind it is nought.
        book = (997, (1,), ((4, ((5, 0, (1,)),)),))
        for ahead in range(3):
            for behind in range(4):
                width = 4 - min(ahead, 1) - min(behind, 2)
                self.assertEqual(going_both(book, ahead, behind), (997, (1,), ((width, ((1, 0, (1 - min(ahead, 1),)),)),)))

    def test_by_elimination(self):
        compared = 0
        for rnd, book in some_books(261, 140):
            ahead, behind = rnd.randint(0, 2), rnd.randint(0, 2)
            found = told(going_both, book, ahead, behind)
            if found is not None:
                self.assertIs(need_book(found), found)
                self.assertEqual((found[:2], within(found[2], 3)), (book[:2], plain_going(book, ahead, behind, 3)),
                                 (book, ahead, behind))
                self.assertEqual(found, closed_book(found))
                compared += 1
            found = told(going_back, book, ahead)
            if found is not None:
                self.assertEqual((found[:2], within(found[2], 4)), (book[:2], plain_going(book, ahead, 0, 4)), (book, ahead))
                compared += 1
        self.assertGreater(compared, 250)

    def test_it_is_going_of_the_mirrored_book_mirrored(self):
        compared = 0
        for _, book in some_books(262, 80):
            for more in (0, 1, 2, 40):
                found = told(going_back, book, more)
                turned = told(going, plain.mirrored_book(book), more)
                if turned is None:
                    self.assertIsNone(found)
                else:
                    again = told(closed_book, plain.mirrored_book(turned))
                    self.assertEqual(found, again)
                    compared += found is not None
        self.assertGreater(compared, 250)

    def test_none_ahead_or_none_behind(self):
        for _, book in some_books(263, 80):
            if told(going_back, book, 0) is None:
                continue
            self.assertEqual(going_back(book, 0), closed_book(book))
            for more in (0, 1, 2, 40):
                found = told(going_both, book, 0, more)
                self.assertIn(found, (None, going(book, more)))
                self.assertEqual(told(going_both, book, more, 0), told(going_back, book, more))

    def test_behind_first_or_ahead_first(self):
        compared = 0
        for rnd, book in some_books(264, 80):
            ahead, behind = rnd.choice((0, 1, 2, 40)), rnd.choice((0, 1, 2, 40))
            found = told(going_both, book, ahead, behind)
            back = told(going_back, book, ahead)
            if found is not None and back is not None:
                self.assertEqual(found, going(back, behind))
                self.assertEqual(found, going_back(going(book, behind), ahead))
                compared += 1
        self.assertGreater(compared, 60)

    def test_mirrored_about(self):
        for rnd, book in some_books(265, 60):
            ahead, behind = rnd.randint(0, 3), rnd.randint(0, 3)
            found = told(going_both, book, ahead, behind)
            turned = told(going_both, plain.mirrored_book(book), behind, ahead)
            if found is not None and turned is not None:
                self.assertEqual(closed_book(plain.mirrored_book(turned)), found)

    def test_too_great_on_the_way(self):
        # The closed list of the book is let, that of the mirrored one is not.
        rnd = plain.dice(266)
        seen = {}
        while len(seen) < 3:
            kinds = rnd.choice(((1,), (1, 1), (0, 1), (2,)))
            book = plain.some_book(rnd.choice((0, 2)), kinds, rnd, rnd.choice((1, 2)), (3, 4, 5, 6), 2)
            closed = told(closed_book, book)
            turned = told(closed_book, plain.mirrored_book(book))
            if (closed is None) == (turned is None):
                continue
            if closed is None:
                # Ahead of what is found places are looked at by the mirrored book alone.
                seen[0] = True
                found = going(plain.mirrored_book(book), 1)
                self.assertEqual(told(going_back, book, 1), told(closed_book, plain.mirrored_book(found)))
                refuses_most(self, TooGreat, 6, going_both, book, 1, 0)
                refuses_most(self, TooGreat, 6, going, book, 1)
            else:
                seen[1] = True
                refuses_most(self, TooGreat, 6, going_back, book, 1)
                refuses_most(self, TooGreat, 6, going_back, book, 0)
                refuses_most(self, TooGreat, 6, going_both, book, 0, 0)
                for behind in (0, 1, 40):
                    way = told(closed_book, plain.mirrored_book(going(book, behind)))
                    if way is None:
                        refuses_most(self, TooGreat, 6, going_both, book, 1, behind)
                    else:
                        seen[2] = True
                        self.assertEqual(told(going_both, book, 1, behind), told(going_back, going(book, behind), 1))


if __name__ == "__main__":
    unittest.main()
