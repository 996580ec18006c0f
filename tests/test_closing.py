"""[6], [8], [20], [22] Closed books, hidden orders, the search."""

import unittest
from itertools import combinations, permutations, product

from risingsays.bringing import brought, is_closed
from risingsays.closing import closed_book, closed_hidden, closing_after
from risingsays.errors import BadBook, BadParameter, TooGreat
from risingsays.sayings import need_book
from tests import plain
from tests.odd import ODD, IntChild, Placed, TupleChild, first_refused, refuses_most, refuses_place, refuses_value
from tests.search import plain_states
from tests.test_bringing import some_books
from tests.test_tables import WRONG_BOOKS

SUMS = (0, (1,), ((2, ((1, 0, (1,)), (1, 0, (0,)))),))
PAIRS = (0, (2,), ((3, ((1, 0, (1, 2)), (-1, 0, (0, 2)), (1, 0, (0, 1)))),))
DIFFERENCES = (0, (1, 2), ((2, ((1, 1, (0, 1)), (-1, 0, (1,)), (1, 0, (0,)))),))
# The greatest members have eight places (none has seven), six, seven.
EIGHT = (2, (2, 2), ((5, ((1, 1, (1, 4)),)), (5, ((1, 0, (0, 4)), (1, 1, (0, 1))))))
SIX = (0, (1,), ((5, ((1, 0, (4,)), (-1, 0, (0,)))),))
SEVEN = (0, (1,), ((6, ((1, 0, (5,)), (-1, 0, (0,)))),))
FEW_KINDS = ((0,), (1,), (2,), (1, 1), (1, 2), (0, 1), (2, 2), (0, 3))


def full_book(kinds, ahead=()):
    """Four sayings for each kind of triples on five places, such that all of them are nought on six."""
    sayings = []
    for kind in range(len(kinds) - 1, -1, -1):
        if kinds[kind] == 3:
            there = [places for _, places in reversed(plain.unknowns((3,), 5))]
            for turn in range(4):
                sayings.append((5, tuple((pow(3 + turn, at, 997), kind, places) for at, places in enumerate(there))))
    return (997, kinds, ahead + tuple(sayings))


def lots(count):
    return [lot for size in range(count + 1) for lot in combinations(range(count), size)]


class ClosedBook(unittest.TestCase):
    def test_the_examples(self):
        self.assertEqual(closed_book(PAIRS), PAIRS)
        for prime in (2, 3, 5, 997):
            book = (prime, (2,), ((3, ((1, 0, (1, 2)), (prime - 1, 0, (0, 2)), (1, 0, (0, 1)))),))
            self.assertEqual(closed_book(book), book)
        self.assertEqual(closed_book(SUMS), (0, (1,), SUMS[2] + ((3, ((1, 0, (0,)),)),)))
        self.assertEqual(closed_book(book=(2,) + SUMS[1:]), (2,) + SUMS[1:])
        self.assertEqual(closed_book((3,) + SUMS[1:]), (3, (1,), SUMS[2] + ((3, ((1, 0, (0,)),)),)))

    def test_the_examples_of_later_parts(self):
        book = (0, (1,), ((3, ((1, 0, (2,)), (-1, 0, (0,)))),))
        self.assertEqual(closed_book(book)[2], book[2] + ((4, ((1, 0, (1,)), (-1, 0, (0,)))),))
        both = (0, (1,), ((2, ((1, 0, (1,)), (-1, 0, (0,)))), (2, ((1, 0, (1,)), (1, 0, (0,))))))
        self.assertEqual(closed_book(both)[2], ((2, ((1, 0, (0,)),)), (2, ((1, 0, (1,)),))))

    def test_no_sayings_and_sayings_that_say_all(self):
        self.assertEqual(closed_book((0, (3, 1), ())), (0, (3, 1), ()))
        self.assertEqual(closed_book((5, (0,), ((0, ((3, 0, ()),)), (6, ((2, 0, ()),))))),
                         (5, (0,), ((0, ((1, 0, ()),)),)))
        self.assertEqual(closed_book((0, (0, 1), ((6, ((-2, 1, (3,)), (4, 0, ()))),)))[2],
                         ((6, ((1, 1, (3,)), (-2, 0, ()))),))

    def test_members_are_whole_by_width_then_by_lead(self):
        book = (0, (1, 1), ((3, ((-4, 1, (0,)),)), (2, ((6, 1, (1,)), (4, 1, (0,)))), (2, ((-2, 0, (1,)), (8, 0, (0,)))),
                            (0 + 1, ((5, 0, (0,)),))))
        self.assertEqual(closed_book(book)[2], ((1, ((1, 0, (0,)),)), (2, ((3, 1, (1,)), (2, 1, (0,)))),
                                                (3, ((1, 1, (0,)),))))

    def test_members_as_the_document_tells_them(self):
        for _, book in some_books(51, 150, (1, 2, 3)):
            self.assertEqual(closed_book(book), book[:2] + (plain.closed_list(book, 6)[0],), book)
        for _, book in some_books(52, 60, (0, 1, 2, 3, 4), (1, 2)):
            self.check_closed(book, 7)

    def test_members_of_wide_sayings(self):
        rnd = plain.dice(53)
        great = 0
        for _ in range(30):
            book = plain.some_book(rnd.choice((0, 2, 3)), rnd.choice(((1,), (0, 1))), rnd, rnd.choice((1, 1, 2)),
                                   (4, 5, 6), 2)
            great += self.check_closed(book, 12)
        self.assertGreater(great, 4)
        self.assertLess(great, 26)

    def check_closed(self, book, most):
        """The closed book is as elimination on each number of places up to the most tells; whether it is too great."""
        members = plain.closed_list(book, most)[0]
        if members and members[-1][0] > 6:
            refuses_most(self, TooGreat, 6, closed_book, book)
            return True
        if most == 12:
            self.assertEqual(closed_book(book)[2], members, book)
        else:
            try:
                self.assertEqual(closed_book(book)[2], members, book)
            except TooGreat:
                return True
        return False

    def test_leads_are_those_of_what_is_made_on_each_number_of_places(self):
        for _, book in some_books(54, 60, (1, 2, 3), (1, 2)):
            members = closed_book(book)[2]
            leads = [(width, terms[0][1:]) for width, terms in members]
            for many in range(7):
                pivots = plain.made_pivots(book, many)
                for unknown in plain.unknowns(book[1], many):
                    self.assertIs(unknown in pivots, plain.is_reached(leads, many, unknown), (book, many, unknown))

    def test_it_is_its_own_closed_book_and_closed(self):
        for _, book in some_books(55, 100):
            closed = closed_book(book)
            self.assertIs(need_book(closed), closed)
            self.assertIs(is_closed(closed), True)
            self.assertEqual(closed_book(closed), closed)

    def test_the_order_of_the_sayings_and_multiples_do_not_count(self):
        for rnd, book in some_books(56, 40, (1, 2, 3), (2, 3)):
            closed = closed_book(book)
            for sayings in permutations(book[2]):
                self.assertEqual(closed_book(book[:2] + (sayings,)), closed)
            width, terms = book[2][0]
            factor = plain.some_coef(book[0], rnd)
            many = tuple((coef * factor % book[0] if book[0] else coef * factor, *rest) for coef, *rest in terms)
            self.assertEqual(closed_book(book[:2] + (book[2][1:] + ((width, many),) + book[2][:1],)), closed)

    def test_it_brings_just_what_is_made_to_nothing(self):
        for rnd, book in some_books(57, 80, (1, 2, 3), (1, 2, 3)):
            sayings = list(closed_book(book)[2])
            for many in range(6):
                made = plain.something_made(book, many, rnd)
                others = [plain.some_terms(book[0], book[1], many, rnd) for _ in range(3)]
                for terms in [made] + others:
                    for _ in range(2):
                        rnd.shuffle(sayings)
                        closed = book[:2] + (tuple(sayings),)
                        self.assertIs(brought(closed, many, terms) == (), plain.is_made(book, many, terms),
                                      (book, many, terms))
                self.assertEqual(brought(closed, many, made), ())

    def test_what_is_left_does_not_hang_on_the_order(self):
        for rnd, book in some_books(58, 40, (1, 2, 3), (2, 3)):
            sayings = list(closed_book(book)[2])
            terms = plain.some_terms(book[0], book[1], 5, rnd)
            left = brought(closed_book(book), 5, terms)
            for _ in range(4):
                rnd.shuffle(sayings)
                self.assertEqual(brought(book[:2] + (tuple(sayings),), 5, terms), left)

    def test_more_than_six_places(self):
        self.assertEqual(closed_book(SIX)[2], SIX[2] + ((6, ((1, 0, (1,)), (-1, 0, (0,)))),))
        self.assertEqual(plain.closed_list(SEVEN, 7)[0][-1][0], 7)
        refuses_most(self, TooGreat, 6, closed_book, SEVEN)
        self.assertEqual([width for width, _ in plain.closed_list(EIGHT, 8)[0]], [5, 5, 6, 8])
        refuses_most(self, TooGreat, 6, closed_book, EIGHT)

    def test_more_than_sixty_members(self):
        sixty = full_book((3,) * 5)
        self.assertEqual(closed_book(sixty)[2], plain.closed_list(sixty, 6)[0])
        self.assertEqual(len(closed_book(sixty)[2]), 60)
        refuses_most(self, TooGreat, 60, closed_book, full_book((3,) * 6))
        # Single terms say just themselves.
        rows = tuple((6, ((1, kind, places),)) for kind, places in plain.unknowns((3,) * 3, 6))
        sixty = (0, (3,) * 3, rows)
        self.assertEqual(closed_book(sixty), sixty)
        for many in (58, 59):
            # The last saying makes two members.
            more = (0, (3, 3, 3, 1), rows[:many] + ((2, ((1, 3, (1,)), (1, 3, (0,)))),))
            if many == 58:
                self.assertEqual(len(closed_book(more)[2]), 60)
            else:
                refuses_most(self, TooGreat, 60, closed_book, more)

    def test_six_is_told_ahead_of_sixty(self):
        kinds = (3,) * 6 + (1,)
        wide = full_book(kinds, ((6, ((1, 6, (5,)), (996, 6, (0,)))),))
        refuses_most(self, TooGreat, 60, closed_book, full_book(kinds))
        refuses_most(self, TooGreat, 6, closed_book, wide)
        refuses_most(self, TooGreat, 60, closed_hidden, full_book(kinds), (0, 5))
        refuses_most(self, TooGreat, 6, closed_hidden, wide, (0, 5))

    def test_great_coefs(self):
        big = 10 ** 50
        book = (0, (1,), ((2, ((big, 0, (1,)), (big + 1, 0, (0,)))),))
        self.assertEqual(closed_book(book)[2], book[2] + ((3, ((1, 0, (0,)),)),))

    def test_wrong_books(self):
        for call, more in ((closed_book, ()), (closed_hidden, (None,)), (closing_after, (-1,))):
            for place, book in WRONG_BOOKS:
                refuses_place(self, BadBook, place, call, book, *more)
            for book in ODD:
                refuses_place(self, BadBook, (), call, book, *more)


class ClosedHidden(unittest.TestCase):
    def test_the_example(self):
        self.assertEqual(closed_hidden(DIFFERENCES, ())[2], closed_book(DIFFERENCES)[2])
        self.assertEqual(closed_hidden(book=DIFFERENCES, hidden=(0,))[2],
                         DIFFERENCES[2] + ((3, ((1, 1, (1, 2)), (-1, 1, (0, 2)), (1, 1, (0, 1)))),))
        self.assertEqual(closed_hidden(DIFFERENCES, (1,))[2], DIFFERENCES[2])

    def test_members_stand_by_their_leads_and_are_written_as_always(self):
        # With the kind 0 ahead its unknown leads, although it is the lesser one and not the first term.
        book = (0, (1, 1), ((1, ((-2, 1, (0,)), (6, 0, (0,)))), (2, ((1, 1, (1,)), (5, 1, (0,))))))
        self.assertEqual(closed_hidden(book, ())[2][0], (1, ((1, 1, (0,)), (-3, 0, (0,)))))
        self.assertEqual(closed_hidden(book, (0,))[2][0], (1, ((1, 1, (0,)), (-3, 0, (0,)))))
        two = (0, (1, 1), ((2, ((1, 1, (1,)), (5, 1, (0,)))), (2, ((7, 1, (1,)), (1, 0, (0,))))))
        # The one with the lead (0, (0,)) stands last, as this is hidden, although it is the least of all unknowns.
        self.assertEqual(closed_hidden(two, (0,))[2],
                         ((2, ((1, 1, (1,)), (5, 1, (0,)))), (2, ((35, 1, (0,)), (-1, 0, (0,)))),
                          (3, ((1, 1, (0,)),))))
        self.assertEqual(closed_hidden(two, (1,)), closed_book(two))
    def test_nothing_and_all_hidden_are_the_closed_book(self):
        for _, book in some_books(61, 60):
            closed = closed_book(book)
            self.assertEqual(closed_hidden(book, ()), closed)
            self.assertEqual(closed_hidden(book, tuple(range(len(book[1])))), closed)

    def test_members_as_the_document_tells_them(self):
        for rnd, book in some_books(62, 120, (1, 2, 3), (1, 2, 3)):
            hidden = rnd.choice(lots(len(book[1])))
            self.check_hidden(book, hidden, 6)

    def test_each_lot_of_kinds(self):
        rnd = plain.dice(63)
        for field, kinds in product((0, 2, 5), ((1, 1), (0, 1, 1), (1, 2), (1, 1, 2))):
            book = plain.some_book(field, kinds, rnd, 2, (2, 3), 4)
            for hidden in lots(len(kinds)):
                self.check_hidden(book, hidden, 7)

    def check_hidden(self, book, hidden, most):
        members = plain.closed_list(book, most, hidden)[0]
        try:
            found = closed_hidden(book, hidden)
        except TooGreat as told:
            self.assertEqual(told.most, 6)
            self.assertTrue(most < 12)
        else:
            self.assertEqual(found, book[:2] + (members,), (book, hidden))

    def test_more_than_six_places_for_one_order_alone(self):
        # Hidden or not: the kind whose unknowns lead has idle places behind its lead or not.
        book = (0, (1, 1), ((6, ((1, 1, (5,)), (1, 0, (4,)), (1, 0, (0,)))),))
        self.assertEqual(plain.closed_list(book, 8)[0][-1][0] > 6, self.is_too_great(book, ()))
        self.assertEqual(plain.closed_list(book, 8, (0,))[0][-1][0] > 6, self.is_too_great(book, (0,)))
        one = (0, (0, 1), ((6, ((1, 1, (5,)), (1, 0, ()))),))
        self.assertIs(self.is_too_great(one, (1,)), False)
        self.assertIs(self.is_too_great(one, (0,)), True)

    def is_too_great(self, book, hidden):
        try:
            closed_hidden(book, hidden)
        except TooGreat as told:
            self.assertEqual(told.most, 6)
            return True
        return False

    def test_wrong_hidden(self):
        for hidden in ODD + (0, (2,), (-1,), (0, 0), (1, 0), [0], (0, 1, 2), (True,), (0.0,), (None,), TupleChild((0,)),
                             (IntChild(0),), ("0",), ((0,),)):
            refuses_value(self, BadParameter, hidden, closed_hidden, DIFFERENCES, hidden)
            # Ahead of what is too great.
            refuses_value(self, BadParameter, (7,), closed_hidden, SEVEN, (7,))
        first_refused(self, closed_hidden, (DIFFERENCES, (0,)),
                      {0: Placed((BadBook, (0, (1,), (None,)), (2, 0))), 1: (2,)})


class ClosingAfter(unittest.TestCase):
    def test_the_example(self):
        one = SUMS[2]
        two = one + ((3, ((1, 0, (0,)),)),)
        states = [(0, (), ()), (1, (), ()), (2, (), (SUMS[2][0][1],)), (2, one, ()),
                  (3, one, (((1, 0, (1,)), (-1, 0, (0,))),)), (3, two, ()), (4, two, (((1, 0, (0,)),),)), (4, two, ())]
        states += [(level, two, ()) for level in range(5, 13)]
        for steps, state in enumerate(states):
            self.assertEqual(closing_after(SUMS, steps), state)
        for steps in (len(states), 20, 4999, 5000):
            self.assertEqual(closing_after(book=SUMS, steps=steps), states[-1])

    def test_sayings_without_places_come_first(self):
        book = (0, (0, 1), ((0, ((-3, 0, ()),)), (1, ((2, 1, (0,)), (2, 0, ()))), (0, ((5, 0, ()),))))
        self.assertEqual(closing_after(book, 0), (0, (), (((1, 0, ()),), ((1, 0, ()),))))
        self.assertEqual(closing_after(book, 1), (0, ((0, ((1, 0, ()),)),), (((1, 0, ()),),)))
        self.assertEqual(closing_after(book, 3), (1, ((0, ((1, 0, ()),)),), (((1, 1, (0,)), (1, 0, ())),)))

    def test_no_sayings(self):
        for steps in range(14):
            self.assertEqual(closing_after((7, (3,), ()), steps), (min(steps, 12), (), ()))

    def test_each_state_word_by_word(self):
        for _, book in some_books(71, 120, (0, 1, 2, 3, 4), (0, 1, 2, 3)):
            self.check_states(book)

    def test_each_state_of_wide_sayings(self):
        rnd = plain.dice(72)
        great = 0
        for _ in range(60):
            book = plain.some_book(rnd.choice((0, 2, 3, 997)), rnd.choice(FEW_KINDS), rnd, rnd.choice((1, 2, 3)),
                                   (3, 4, 5, 6), 3)
            great += self.check_states(book)
        self.assertGreater(great, 3)

    def check_states(self, book):
        last = None
        for steps, state in enumerate(plain_states(book)):
            if state is None:
                refuses_most(self, TooGreat, 6, closing_after, book, steps)
                refuses_most(self, TooGreat, 6, closing_after, book, 5000)
                refuses_most(self, TooGreat, 6, closed_book, book)
                return True
            self.assertEqual(closing_after(book, steps), state, (book, steps))
            last = state
        for steps in (steps + 1, steps + 2, 5000):
            self.assertEqual(closing_after(book, steps), last)
        self.assertEqual(last[0], 12)
        self.assertEqual(last[2], ())
        self.assertEqual(closed_book(book)[2], last[1])
        return False

    def test_finishing(self):
        # On one level the first member has the lead of the second one among its terms.
        book = (0, (1,), ((3, ((2, 0, (2,)), (3, 0, (1,)), (1, 0, (0,)))), (3, ((5, 0, (1,)), (1, 0, (0,))))))
        self.assertEqual(closing_after(book, 5)[1], book[2])
        self.assertEqual(closing_after(book, 6)[1], ((3, ((5, 0, (1,)), (1, 0, (0,)))), (3, ((5, 0, (2,)), (1, 0, (0,))))))

    def test_what_is_too_great_is_told_by_its_step_alone(self):
        states = list(plain_states(EIGHT))
        self.assertIsNone(states[-1])
        self.assertEqual(closing_after(EIGHT, len(states) - 2), states[-2])
        self.assertEqual(states[-2][0], 8)
        refuses_most(self, TooGreat, 6, closing_after, EIGHT, len(states) - 1)

    def test_more_than_sixty_members_are_let_here(self):
        level, members, left = closing_after(full_book((3,) * 6), 5000)
        self.assertEqual((level, left), (12, ()))
        self.assertGreater(len(members), 60)

    def test_wrong_steps(self):
        for steps in ODD + (-1, 5001, 10 ** 30, (), (3,), IntChild(3), 3.0, "3"):
            refuses_value(self, BadParameter, steps, closing_after, SUMS, steps)
            refuses_value(self, BadParameter, steps, closing_after, SEVEN, steps)
        first_refused(self, closing_after, (SUMS, 3), {0: Placed((BadBook, (0, (), ()), (1,))), 1: 5001})


if __name__ == "__main__":
    unittest.main()
