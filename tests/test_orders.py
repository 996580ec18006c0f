"""[6], [8], [13], [42] to [44] Places without names."""

import unittest
from itertools import permutations

from risingsays.closing import closed_book
from risingsays.errors import BadBook, BadParameter, BadSaying, BadTable, NoRow, TooGreat
from risingsays.orders import any_order, exchanged, is_naming, is_nameless, naming, turned_all
from risingsays.pairing import alike_from, follows_all
from risingsays.sayings import need_book, need_saying, turned, unknowns
from risingsays.tables import keeps, need_table
from tests import plain
from tests.odd import (ODD, IntChild, Placed, Spiteful, TupleChild, first_refused, refusal, refuses_most, refuses_place,
                       refuses_value)
from tests.test_closing import SEVEN
from tests.test_following import WRONG_SAYINGS
from tests.test_tables import NO_FRACTIONS, WRONG_BOOKS, WRONG_MANY

PLUS = (2, ((1, 0, (1,)), (1, 0, (0,))))
LESS = (2, ((1, 0, (1,)), (-1, 0, (0,))))
TWICE = (2, ((1, 0, (1,)), (-2, 0, (0,))))
NAMED = (0, (1,), (TWICE,))
PAIRS = (0, (2,), ((3, ((1, 0, (1, 2)), (-1, 0, (0, 2)), (1, 0, (0, 1)))),))
TRIANGLES = (0, (2,), ((3, ((1, 0, (1, 2)), (1, 0, (0, 2)), (1, 0, (0, 1)))),))
FIVE = (5, ((1, 0, (4,)),))
ONE = (1, 1)
TWO = (2, 1)


def some_books(seed, turns, widths=(0, 1, 2, 3), most=3):
    rnd = plain.dice(seed)
    for turn in range(turns):
        field = rnd.choice((0, 0, 2, 3, 997))
        kinds = rnd.choice([kinds for kinds in plain.KINDS_LOTS if min(kinds) <= max(widths) and len(kinds) < 5])
        book = plain.some_book(field, kinds, rnd, rnd.randint(0, most), widths)
        if turn % 3 == 2:
            # Named by nothing, or just by the last saying.
            told = [one for saying in book[2][:2] for one in plainly_turned(book[0], saying)]
            book = book[:2] + (tuple(told) + book[2][2:],)
        yield rnd, book


def order_row(row, order):
    return {(kind, tuple(sorted(order[at] for at in places))): coef for (kind, places), coef in row.items()}


def plainly_turned(field, saying):
    """[42] All that comes of a saying by the orders of its places."""
    width, terms = saying
    return tuple(sorted({(width, plain.whole_terms(field, order_row(plain.row_of(terms), order)))
                         for order in permutations(range(width))}))


def plainly_exchanged(book, many, table, order):
    at = {unknown: number for unknown, number in zip(plain.unknowns(book[1], many), table)}
    return tuple(at[(kind, tuple(sorted(order[place] for place in places)))]
                 for kind, places in plain.unknowns(book[1], many))


def plain_name(book):
    """[44] The first saying and its first order that are named, None if there is none."""
    for number, (width, terms) in enumerate(book[2]):
        for order in sorted(permutations(range(width))):
            if not plain.is_made(book, width, plain.terms_of(order_row(plain.row_of(terms), order))):
                return (number, order)
    return None


def is_let(book):
    try:
        closed_book(book)
    except TooGreat:
        return False
    return True


class TurnedAll(unittest.TestCase):
    def test_ordinary(self):
        self.assertEqual(turned_all(0, (1,), LESS), (LESS,))
        self.assertEqual(turned_all(0, (1,), (2, ((-3, 0, (1,)), (3, 0, (0,))))), (LESS,))
        self.assertEqual(turned_all(0, (1,), TWICE), ((2, ((1, 0, (1,)), (-2, 0, (0,)))), (2, ((2, 0, (1,)), (-1, 0, (0,))))))
        self.assertEqual(turned_all(field=5, kinds=(1,), saying=(2, ((1, 0, (1,)), (3, 0, (0,))))),
                         ((2, ((1, 0, (1,)), (2, 0, (0,)))), (2, ((1, 0, (1,)), (3, 0, (0,))))))
        self.assertEqual(turned_all(0, (0,), (0, ((-4, 0, ()),))), ((0, ((1, 0, ()),)),))
        self.assertEqual(turned_all(0, (1,), (3, ((2, 0, (2,)),))), tuple((3, ((1, 0, (at,)),)) for at in range(3)))
        four = (4, ((1, 0, (3,)), (2, 0, (2,)), (3, 0, (1,)), (5, 0, (0,))))
        self.assertEqual(len(turned_all(0, (1,), four)), 24)
        self.assertEqual(len(turned_all(0, (3,), (4, ((1, 0, (0, 1, 2)),)))), 4)

    def test_by_chance(self):
        for _, book in some_books(341, 60, (0, 1, 2, 3, 4)):
            field, kinds, sayings = book
            for saying in sayings:
                found = turned_all(field, kinds, saying)
                self.assertEqual(found, plainly_turned(field, saying))
                self.assertEqual(found, tuple(sorted(set(found))))
                for one in found:
                    self.assertIs(need_saying(field, kinds, one), one)
                    self.assertEqual(turned_all(field, kinds, one), found)
                for order in permutations(range(saying[0])):
                    again = turned(field, kinds, saying, order)
                    self.assertIn((again[0], plain.whole_terms(field, plain.row_of(again[1]))), found)

    def test_wrong_parameters(self):
        refuses_most(self, TooGreat, 4, turned_all, 0, (1,), FIVE)
        refuses_most(self, TooGreat, 4, turned_all, 0, (1,), SEVEN[2][0])
        refuses_place(self, BadSaying, (1, 0), turned_all, 0, (1,), (5, (None,)))
        for field in ODD + (1, 4, 998, -2, IntChild(3)):
            refuses_value(self, BadParameter, field, turned_all, field, None, None)
        for kinds in ODD + ((), (4,), (1,) * 9, [1], 1):
            refuses_value(self, BadParameter, kinds, turned_all, 0, kinds, None)
        for saying in ODD:
            refuses_place(self, BadSaying, (), turned_all, 0, (1,), saying)
        for place, saying in WRONG_SAYINGS:
            refuses_place(self, BadSaying, place, turned_all, 0, (1,), saying)
        first_refused(self, turned_all, (0, (1,), PLUS), {0: 4, 1: (), 2: Placed((BadSaying, (7, ()), (0,)))})


class Exchanged(unittest.TestCase):
    def test_ordinary(self):
        table = ((1, 1), (2, 1), (3, 1))
        # The place 0 has what the place 2 had, as the order's first thing is 2.
        self.assertEqual(exchanged(NAMED, 3, table, (2, 0, 1)), ((3, 1), (1, 1), (2, 1)))
        self.assertEqual(exchanged(book=NAMED, many=3, table=table, order=(0, 1, 2)), table)
        self.assertEqual(exchanged(PAIRS, 3, table, (2, 0, 1)), ((2, 1), (3, 1), (1, 1)))
        self.assertEqual(exchanged(NAMED, 0, (), ()), ())
        self.assertEqual(exchanged((0, (0, 1), ()), 2, ((7, 1), ONE, TWO), (1, 0)), ((7, 1), TWO, ONE))
        turned_about = tuple(reversed(range(40)))
        self.assertEqual(exchanged(NAMED, 40, tuple((at, 1) for at in range(40)), turned_about),
                         tuple((at, 1) for at in turned_about))

    def test_number_by_number(self):
        for rnd, book in some_books(342, 80):
            many = rnd.randint(0, 5)
            table = plain.some_table(book, many, rnd)
            order = tuple(rnd.sample(range(many), many))
            found = exchanged(book, many, table, order)
            self.assertEqual(found, plainly_exchanged(book, many, table, order))
            self.assertIs(need_table(book, many, found), found)
            back = tuple(order.index(at) for at in range(many))
            self.assertEqual(exchanged(book, many, found, back), table)
            # One order behind the other is one order.
            more = tuple(rnd.sample(range(many), many))
            self.assertEqual(exchanged(book, many, found, more),
                             exchanged(book, many, table, tuple(order[at] for at in more)))

    def test_the_exchanged_table_comes_to_what_the_turned_saying_does(self):
        for rnd, book in some_books(343, 60, (1, 2, 3, 4)):
            for width, terms in book[2]:
                table = plain.some_table(book, width, rnd)
                order = tuple(rnd.sample(range(width), width))
                self.assertEqual(plain.comes_to(book, exchanged(book, width, table, order), width, terms),
                                 plain.comes_to(book, table, width, turned(book[0], book[1], (width, terms), order)[1]))

    def test_wrong_parameters(self):
        table = (ONE, TWO)
        for place, book in WRONG_BOOKS:
            refuses_place(self, BadBook, place, exchanged, book, None, None, None)
        for many in WRONG_MANY:
            refuses_value(self, BadParameter, many, exchanged, NAMED, many, None, None)
        for wrong in ODD + ((), (ONE,), (ONE,) * 3, [ONE, TWO], TupleChild(table)):
            refuses_place(self, BadTable, (), exchanged, NAMED, 2, wrong, None)
        for number in NO_FRACTIONS:
            refuses_place(self, BadTable, (1,), exchanged, NAMED, 2, (ONE, number), None)
        for order in ODD + ((), (0,), (0, 0), (1, 1), (0, 2), (1, 2), (-1, 0), (0, 1, 2), [0, 1], TupleChild((0, 1)),
                            (False, True), (0, True), (IntChild(0), 1), (0, None), (0.0, 1), (0, Spiteful()), ((0,), 1)):
            refuses_value(self, BadParameter, order, exchanged, NAMED, 2, table, order)
        refuses_most(self, TooGreat, 400, exchanged, PAIRS, 29, None, None)
        first_refused(self, exchanged, (NAMED, 2, table, (1, 0)), {
            0: Placed((BadBook, (0, (1,), (None,)), (2, 0))), 1: 41, 2: Placed((BadTable, (ONE,), ())), 3: (1, 1)})


class Nameless(unittest.TestCase):
    def test_ordinary(self):
        for book in ((0, (1,), (LESS,)), (0, (1,), (PLUS,)), (2, (1,), (PLUS,)), (0, (1,), ()), TRIANGLES,
                     (0, (0,), ((0, ((1, 0, ()),)),)), (0, (1,), ((1, ((1, 0, (0,)),)),))):
            self.assertIs(is_nameless(book), True)
            refusal(self, NoRow, naming, book)
            self.assertEqual(any_order(book), closed_book(book))
        for book in (NAMED, PAIRS, (0, (1,), ((2, ((1, 0, (0,)),)),))):
            self.assertIs(is_nameless(book=book), False)
        # Modulo 3 the double is the negative.
        self.assertIs(is_nameless((3, (1,), ((2, ((1, 0, (1,)), (1, 0, (0,)))),))), True)
        self.assertEqual(any_order(book=PAIRS), any_order((0, (2,), (PAIRS[2][0], TRIANGLES[2][0]))))
        self.assertEqual(any_order(NAMED), (0, (1,), ((2, ((1, 0, (0,)),)), (2, ((1, 0, (1,)),)))))

    def test_by_elimination(self):
        told = [0, 0]
        for _, book in some_books(351, 150):
            if is_let(book):
                nameless = plain_name(book) is None
                told[nameless] += 1
                self.assertIs(is_nameless(book), nameless, book)
        self.assertGreater(min(told), 30)

    def test_just_if_all_exchanged_tables_keep_it(self):
        told = [0, 0]
        for _, book in some_books(352, 60, (1, 2, 3)):
            if not is_let(book):
                continue
            # A book that is named is so on as many places as some saying has.
            kept = True
            for many in range(5):
                pivots = plain.made_pivots(book, many)
                kept = kept and all(plain.spans(book[0], pivots, [order_row(row, order) for row in pivots.values()])
                                    for order in permutations(range(many)))
            told[kept] += 1
            self.assertIs(is_nameless(book), kept)
        self.assertGreater(min(told), 10)

    def test_any_order(self):
        for rnd, book in some_books(353, 80):
            field, kinds, sayings = book
            told = tuple(one for saying in sayings for one in plainly_turned(field, saying))
            found = any_order(book)
            self.assertEqual(found, (field, kinds, plain.closed_list((field, kinds, told), 4)[0]
                                     + tuple(saying for saying in found[2] if saying[0] > 4)))
            self.assertIs(need_book(found), found)
            self.assertIs(all(width <= 4 for width, _ in found[2]) and is_nameless(found)
                          or any(width > 4 for width, _ in found[2]), True)
            for many in range(5):
                self.assertIs(follows_all(found, book, many), True)
            if is_let(book):
                self.assertIs(found == closed_book(book), is_nameless(book))
            many = rnd.randint(0, 3)
            for table in (plain.some_table(book, many, rnd), plain.kept_table(book, many, rnd),
                          plain.kept_table(found, many, rnd)):
                self.assertIs(keeps(found, many, table),
                              all(keeps(book, many, plainly_exchanged(book, many, table, order))
                                  for order in permutations(range(many))))

    def test_a_nameless_book_that_says_more_says_what_any_order_says(self):
        for rnd, book in some_books(354, 40, (1, 2), 2):
            more = plain.some_saying(book[0], book[1], rnd, (1, 2))
            longer = any_order(book[:2] + (book[2] + (more,),))
            for many in range(6):
                self.assertIs(follows_all(longer, any_order(book), many), True)

    def test_books_that_say_the_same(self):
        for rnd, book in some_books(355, 60, (0, 1, 2, 3)):
            again = plain.told_otherwise(book, rnd)
            self.assertEqual(any_order(again), any_order(book))
            mirrored = plain.mirrored_book(book)
            self.assertEqual(any_order(mirrored), any_order(book))
            if is_let(book):
                self.assertIs(is_nameless(again), is_nameless(book))
                if is_let(mirrored):
                    self.assertIs(is_nameless(mirrored), is_nameless(book))
                if is_nameless(book):
                    self.assertEqual(alike_from(book, mirrored), 0)

    def test_many_turned_ones(self):
        # Sixty sayings with twenty-four turned ones each.
        rnd = plain.dice(356)
        kinds = (1, 1, 1)
        sayings = tuple((4, plain.terms_of({(kind, (at,)): rnd.randint(1, 96) for kind in range(3) for at in range(4)}))
                        for _ in range(60))
        found = any_order((97, kinds, sayings))
        self.assertEqual(len(found[2]), 12)
        self.assertTrue(all(len(terms) == 1 for _, terms in found[2]))

    def test_wide_sayings_and_wide_members(self):
        wide = (0, (1,), (PLUS, FIVE))
        four = (0, (1,), ((4, ((1, 0, (3,)), (-1, 0, (0,)))),))
        for call, more in ((is_nameless, ()), (any_order, ()), (naming, ()), (is_naming, (None,)), (is_naming, ((0, (), ()),))):
            refuses_most(self, TooGreat, 4, call, wide, *more)
            refuses_most(self, TooGreat, 4, call, SEVEN, *more)
        self.assertIs(is_nameless(four), False)
        self.assertEqual(any_order(four)[2][-1], (4, ((1, 0, (3,)), (-1, 0, (0,)))))
        far = self.far_book()
        for call, more in ((is_nameless, ()), (naming, ()), (is_naming, (None,)), (is_naming, ((0, (), ()),))):
            refuses_most(self, TooGreat, 6, call, far, *more)
            for value in ODD:
                refuses_most(self, TooGreat, 6, is_naming, far, value)

    def far_book(self):
        """A book of sayings of at most four places whose closed list has a member of more than six."""
        rnd = plain.dice(357)
        while True:
            kinds = rnd.choice(((1, 1), (2,), (2, 2), (1, 2)))
            book = plain.some_book(rnd.choice((0, 2)), kinds, rnd, rnd.choice((1, 2)), (3, 4), 3)
            if not is_let(book):
                self.assertTrue(any(width > 6 for width, _ in plain.closed_list(book, 8)[0]))
                return book

    def test_any_order_is_refused_for_the_list_of_all_turned_ones(self):
        # The book's own closed list is too great, that of all turned ones is not, or the other way round.
        rnd = plain.dice(358)
        seen = {}
        for _ in range(400):
            kinds = rnd.choice(((1, 1), (2,), (2, 2), (1, 2), (0, 2)))
            book = plain.some_book(rnd.choice((0, 2)), kinds, rnd, rnd.choice((1, 2)), (3, 4), 3)
            told = tuple(one for saying in book[2] for one in plainly_turned(book[0], saying))[:60]
            let = is_let(book[:2] + (told,))
            seen[(is_let(book), let)] = True
            if let:
                self.assertEqual(any_order(book), closed_book(book[:2] + (told,)))
            else:
                refuses_most(self, TooGreat, 6, any_order, book)
        self.assertIn((False, True), seen)

    def test_more_than_sixty_members(self):
        # On four places all pairs come to nothing: eight members for each kind.
        def book(kinds):
            sayings = tuple((4, tuple((1, kind, places) for _, places in reversed(plain.unknowns((arity,), 4))))
                            for kind, arity in enumerate(kinds))
            return (0, kinds, sayings)

        self.assertEqual(len(any_order(book((2,) * 7))[2]), 56)
        refuses_most(self, TooGreat, 60, any_order, book((2,) * 8))
        refuses_most(self, TooGreat, 60, closed_book, book((2,) * 8))
        # A member of more than six places comes ahead; and the others don't count the members.
        refuses_most(self, TooGreat, 6, any_order, book((2,) * 7 + (3,)))
        self.assertIs(is_nameless(book((2,) * 8)), True)
        refusal(self, NoRow, naming, book((2,) * 8))
        self.assertIs(is_naming(book((2,) * 8), (0, (0, 1, 2, 3), ())), False)

    def test_wrong_books(self):
        for call, more in ((is_nameless, ()), (any_order, ()), (naming, ()), (is_naming, (None,))):
            for place, book in WRONG_BOOKS:
                refuses_place(self, BadBook, place, call, book, *more)
            for book in ODD:
                refuses_place(self, BadBook, (), call, book, *more)
            refuses_place(self, BadBook, (2, 1), call, (0, (1,), (FIVE, None)), *more)


class Naming(unittest.TestCase):
    def check_naming(self, book):
        found = naming(book)
        number, order, table = found
        width = book[2][number][0]
        self.assertIs(need_table(book, width, table), table)
        self.assertIsNone(plain.broken_at(book, width, table))
        turned_about = plainly_exchanged(book, width, table, order)
        self.assertIsNotNone(plain.broken_at(book[:2] + ((book[2][number],),), width, turned_about))
        self.assertIs(is_naming(book, found), True)
        self.assertIs(is_naming(book=book, value=found), True)
        self.assertEqual(naming(book=book), found)
        return found

    def test_the_example(self):
        self.assertEqual(self.check_naming(NAMED)[:2], (0, (1, 0)))
        for table in ((ONE, TWO), ((-3, 2), (-3, 1))):
            self.assertIs(is_naming(NAMED, (0, (1, 0), table)), True)
        for table in ((TWO, ONE), ((0, 1), (0, 1)), (ONE, ONE), (ONE, (4, 2))):
            self.assertIs(is_naming(NAMED, (0, (1, 0), table)), False)

    def test_the_first_saying_and_order(self):
        # The first saying is alike by each order, and that of the book with the other one as well.
        book = (0, (1, 1), ((3, ((1, 0, (2,)), (1, 0, (1,)), (1, 0, (0,)))), (2, ((1, 1, (1,)), (-2, 1, (0,))))))
        self.assertEqual(self.check_naming(book)[:2], (1, (1, 0)))
        # Exchanging the last two places is no name of it, nor is any order that leaves the first place where it is.
        book = (0, (1,), ((3, ((1, 0, (2,)), (1, 0, (1,)), (-5, 0, (0,)))),))
        self.assertEqual(self.check_naming(book)[:2], (0, (1, 0, 2)))
        book = (0, (2,), ((3, ((1, 0, (1, 2)),)),))
        self.assertEqual(self.check_naming(book)[:2], (0, (1, 0, 2)))
        book = (0, (2,), ((3, ((1, 0, (0, 1)),)),))
        self.assertEqual(self.check_naming(book)[:2], (0, (0, 2, 1)))

    def test_by_elimination(self):
        told = {}
        for _, book in some_books(361, 150, (0, 1, 2, 3, 4)):
            if not is_let(book):
                continue
            name = plain_name(book)
            if name is None:
                refusal(self, NoRow, naming, book)
                self.assertIs(is_naming(book, (0, (), ())), False)
            else:
                self.assertEqual(self.check_naming(book)[:2], name, book)
                told[name] = True
        self.assertGreater(len(told), 10)

    def test_other_tables_by_chance(self):
        told = [0, 0]
        for rnd, book in some_books(362, 160):
            name = plain_name(book) if is_let(book) else None
            if name is None:
                continue
            number, order = name
            width = book[2][number][0]
            for table in (plain.kept_table(book, width, rnd), plain.some_table(book, width, rnd)):
                turned_about = plainly_exchanged(book, width, table, order)
                right = (plain.broken_at(book, width, table) is None
                         and plain.broken_at(book[:2] + ((book[2][number],),), width, turned_about) is not None)
                told[right] += 1
                self.assertIs(is_naming(book, (number, order, table)), right)
                self.assertIs(is_naming(book, (number, tuple(range(width)), table)), False)
        self.assertGreater(min(told), 20)

    def test_values_of_odd_kinds(self):
        right = (0, (1, 0), (ONE, TWO))
        self.assertIs(is_naming(NAMED, right), True)
        for value in ODD + ((), right[:2], right + (0,), list(right), TupleChild(right), (0, (0, 1), (ONE, TWO)),
                            (1, (1, 0), (ONE, TWO)), (-1, (1, 0), (ONE, TWO))):
            self.assertIs(is_naming(NAMED, value), False)
        for wrong in ODD + (IntChild(0), -1, 1, 2, (0,), (1, 0, 2), (1,), [1, 0], TupleChild((1, 0)), (True, False), (1, False),
                            (IntChild(1), 0), (1, Spiteful())):
            self.assertIs(is_naming(NAMED, (wrong,) + right[1:]), False)
            self.assertIs(is_naming(NAMED, (0, wrong) + right[2:]), False)
            self.assertIs(is_naming(NAMED, (0, (1, 0), wrong)), False)
            self.assertIs(is_naming(NAMED, (0, (1, 0), (ONE, wrong))), False)
        for number in NO_FRACTIONS:
            self.assertIs(is_naming(NAMED, (0, (1, 0), (number, TWO))), False)
        for table in ([ONE, TWO], TupleChild((ONE, TWO)), (ONE,), (ONE, TWO, TWO), ()):
            self.assertIs(is_naming(NAMED, (0, (1, 0), table)), False)
        for value in ODD + (right, (0, (0, 1), (ONE, ONE))):
            self.assertIs(is_naming((0, (1,), (LESS,)), value), False)
        self.assertEqual(len(unknowns((1,), 2)), 2)


if __name__ == "__main__":
    unittest.main()
