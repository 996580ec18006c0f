"""[8], [13], [19], [25], [27] to [32] Two books beside each other."""

import unittest

from risingsays.closing import closed_book
from risingsays.errors import BadBook, BadParameter, NoRow, RisingError, TooGreat
from risingsays.following import holds_at, holds_from
from risingsays.formulas import equal_from, formula_plus, value_at
from risingsays.free import free_formula
from risingsays.pairing import alike_at, alike_from, both, either, follows_all, is_parting, parting
from risingsays.sayings import need_book
from risingsays.tables import keeps, need_table
from tests import plain
from tests.odd import (ODD, IntChild, Placed, Spiteful, TupleChild, first_refused, refusal, refuses_most, refuses_place,
                       refuses_value)
from tests.test_closing import SEVEN, full_book
from tests.test_tables import NO_FRACTIONS, WRONG_BOOKS, WRONG_MANY

PLUS = (2, ((1, 0, (1,)), (1, 0, (0,))))
LESS = (2, ((1, 0, (1,)), (-1, 0, (0,))))
NULL = (1, ((1, 0, (0,)),))
ALIKE = (0, (1,), (LESS,))
SUMS = (0, (1,), (PLUS,))
NOTHING = (0, (1,), ())
NULLS = (0, (1,), (NULL,))
ENDS = (0, (1,), ((6, ((1, 0, (0,)),)), (6, ((1, 0, (5,)),))))
PAIRS = (0, (2,), ((3, ((1, 0, (1, 2)), (-1, 0, (0, 2)), (1, 0, (0, 1)))),))


def some_books(seed, turns, widths=(0, 1, 2, 3)):
    """Two books of one field and kinds: unlike ones, such as share sayings, and such as say the same."""
    rnd = plain.dice(seed)
    for turn in range(turns):
        field = rnd.choice((0, 0, 2, 3, 997))
        kinds = rnd.choice([kinds for kinds in plain.KINDS_LOTS if min(kinds) <= max(widths) and len(kinds) < 5])
        one = plain.some_book(field, kinds, rnd, rnd.choice((0, 1, 1, 2)), widths)
        other = plain.some_book(field, kinds, rnd, rnd.choice((0, 1, 1, 2)), widths)
        if turn % 4 == 1:
            other = (field, kinds, one[2][:1] + other[2][:1])
        if turn % 4 == 2:
            other = plain.told_otherwise(one, rnd)
        if turn % 4 == 3:
            other = (field, kinds, one[2] + tuple(pressed(saying) for saying in plain.closed_list(one, 4)[0][-2:]))
        yield rnd, one, other


def pressed(saying):
    """A saying without the places that it does not name: it may hold on more places than it has."""
    width, terms = saying
    named = sorted({place for _, _, places in terms for place in places})
    return (len(named), tuple((coef, kind, tuple(named.index(place) for place in places))
                              for coef, kind, places in terms))


def is_let(call, *given):
    """Whether a call is not refused for a closed list with a member of more than six places."""
    try:
        call(*given)
    except TooGreat:
        return False
    return True


def is_wide(book):
    """Whether the closed list has a member of seven or eight places, by elimination."""
    return any(width > 6 for width, _ in plain.closed_list(book, 8)[0])


def is_wide_with_copies(one, other):
    """The same of the book by which what either says is found."""
    field, kinds, sayings = one
    count = len(kinds)
    told = [(width, plain.terms_of({**plain.row_of(terms), **copied(count, terms)})) for width, terms in sayings]
    told.extend((width, plain.terms_of(copied(count, terms))) for width, terms in other[2])
    doubled = (field, kinds + kinds, tuple(told))
    return any(width > 6 for width, _ in plain.closed_list(doubled, 8, tuple(range(count, 2 * count)))[0])


def copied(count, terms):
    return {(kind + count, places): coef for (kind, places), coef in plain.row_of(terms).items()}


def wide_with_one(one, other):
    """Whether one of both, or one with a saying of the other one that does not hold in it, has such a member."""
    books = [one, other]
    for book, sayings in ((one, other[2]), (other, one[2])):
        books.extend(book[:2] + (book[2] + (saying,),) for saying in sayings if not plain.is_made(book, *saying))
    return any(is_wide(book) for book in books)


def mirrored(book):
    return plain.mirrored_book(book)


def zassenhaus(one, other, many):
    """Rows that span what is MADE of both books, by elimination of pairs: (row, row) of one, (row, nothing) of other."""
    rows = []
    for row in plain.carried_rows(one, many):
        rows.append({(side, unknown): coef for unknown, coef in row.items() for side in (0, 1)})
    for row in plain.carried_rows(other, many):
        rows.append({(1, unknown): coef for unknown, coef in row.items()})
    pivots = plain.pivots_of(one[0], rows, lambda told: (told[0], plain.UNKNOWN_KEY(told[1])))
    return {lead[1]: {unknown: coef for (_, unknown), coef in row.items()}
            for lead, row in pivots.items() if lead[0] == 0}


class Alike(unittest.TestCase):
    def test_the_example(self):
        for many in range(41):
            self.assertIs(alike_at(ALIKE, SUMS, many), many < 2, many)
            self.assertIs(follows_all(ALIKE, SUMS, many), many < 2, many)
            # From three places on the sums leave noughts alone, and these are alike.
            self.assertIs(follows_all(SUMS, ALIKE, many), many != 2, many)
        self.assertIsNone(alike_from(ALIKE, SUMS))
        self.assertIsNone(alike_from(book=SUMS, other=ALIKE))
        self.assertIs(alike_at(book=SUMS, other=ALIKE, many=1), True)
        self.assertIs(follows_all(book=SUMS, other=ALIKE, many=3), True)

    def test_from_some_number_on(self):
        self.assertEqual(alike_from(SUMS, NULLS), 3)
        self.assertEqual([alike_at(SUMS, NULLS, many) for many in range(5)], [True, False, False, True, True])
        self.assertEqual([follows_all(SUMS, NULLS, many) for many in range(5)], [True, False, False, True, True])
        self.assertEqual([follows_all(NULLS, SUMS, many) for many in range(5)], [True] * 5)
        self.assertEqual(alike_from(ENDS, NULLS), 10)
        self.assertEqual(alike_from(NULLS, ENDS), 10)
        self.assertEqual([alike_at(NULLS, ENDS, many) for many in range(13)], [True] + [False] * 9 + [True] * 3)
        self.assertEqual(alike_from(NOTHING, NOTHING), 0)
        self.assertEqual(alike_from(NULLS, NULLS), 0)
        self.assertIsNone(alike_from(NOTHING, NULLS))
        # Alike for a while, then not, then for ever; a number of places on which they are alike between others.
        later = (0, (1,), (PLUS, (5, ((1, 0, (0,)),))))
        self.assertEqual(alike_from(later, SUMS), 0)
        gap = (0, (1, 1), ((1, ((1, 0, (0,)),)), (4, ((1, 1, (0,)),)), (4, ((1, 1, (3,)),))))
        more = (0, (1, 1), ((1, ((1, 0, (0,)),)), (3, ((1, 1, (0,)),)), (4, ((1, 1, (3,)),))))
        told = [alike_at(gap, more, many) for many in range(9)]
        self.assertEqual(told, [True] * 3 + [False] * 3 + [True] * 3)
        self.assertEqual(alike_from(gap, more), 6)

    def test_by_elimination(self):
        told = {True: 0, False: 0}
        froms = {}
        for _, one, other in some_books(201, 120):
            if not is_let(alike_from, one, other):
                self.assertTrue(wide_with_one(one, other))
                continue
            unlike = []
            for many in range(7):
                mine, yours = plain.unlike_rows(one, other, many)
                self.assertIs(follows_all(one, other, many), not yours, (one, other, many))
                self.assertIs(follows_all(other, one, many), not mine, (one, other, many))
                alike = alike_at(one, other, many)
                self.assertIs(alike, not mine and not yours, (one, other, many))
                self.assertIs(alike_at(other, one, many), alike)
                told[alike] += 1
                if not alike:
                    unlike.append(many)
            start = alike_from(one, other)
            self.assertEqual(alike_from(other, one), start)
            # With sayings of at most three places and so few of them all is told on six places.
            self.assertEqual(start, None if 6 in unlike else max(unlike, default=-1) + 1, (one, other))
            froms[start] = froms.get(start, 0) + 1
        self.assertGreater(min(told.values()), 100)
        self.assertGreater(froms[None], 20)
        self.assertGreater(froms[0], 20)
        self.assertGreater(sum(froms[start] for start in froms if start), 5)

    def test_great_numbers_of_places(self):
        for rnd, one, other in some_books(202, 40):
            start = alike_from(one, other)
            for many in (20, 39, 40):
                self.assertIs(alike_at(one, other, many), start is not None)
            last = rnd.randint(10, 40)
            told = [saying for saying in other[2] if not holds_at(one, saying, last)]
            self.assertIs(follows_all(one, other, last), not told)

    def test_it_is_told_by_from_where_the_sayings_hold(self):
        for _, one, other in some_books(203, 80):
            starts = [0]
            for book, sayings in ((one, other[2]), (other, one[2])):
                for saying in sayings:
                    start = holds_from(book, saying)
                    if start != saying[0]:
                        starts.append(start)
            self.assertEqual(alike_from(one, other), None if None in starts else max(starts))

    def test_it_is_told_by_the_formulas(self):
        # Both are alike where each one has as many free unknowns as both together.
        for _, one, other in some_books(204, 80):
            together = free_formula(both(one, other))
            mine, yours = free_formula(one), free_formula(other)
            for many in list(range(12)) + [40]:
                count = value_at(together, many)
                self.assertIs(alike_at(one, other, many), count == value_at(mine, many) == value_at(yours, many))
                self.assertIs(follows_all(one, other, many), count == value_at(mine, many))
            starts = (equal_from(mine, together), equal_from(yours, together))
            self.assertEqual(alike_from(one, other), None if None in starts else max(starts))

    def test_books_that_say_the_same(self):
        for rnd, one, other in some_books(205, 60):
            again = plain.told_otherwise(one, rnd)
            self.assertEqual(alike_from(one, again), 0)
            self.assertEqual(alike_from(again, other), alike_from(one, other))
            for many in (0, 1, 2, 3, 4, 40):
                self.assertIs(alike_at(one, again, many), True)
                self.assertIs(follows_all(again, other, many), follows_all(one, other, many))
            self.assertEqual(closed_book(one), closed_book(again))
            self.assertIs(closed_book(one) == closed_book(other), alike_from(one, other) == 0
                          and all(alike_at(one, other, many) for many in range(12)))
            if is_let(alike_from, mirrored(one), mirrored(other)):
                self.assertEqual(alike_from(mirrored(one), mirrored(other)), alike_from(one, other))

    def test_how_many_sayings_and_members_does_not_matter(self):
        sixty = (0, (1,), (NULL,) * 60)
        self.assertEqual(alike_from(sixty, (0, (1,), (PLUS,) * 60)), 3)
        self.assertIs(follows_all(sixty, sixty, 3), True)
        full = full_book((3,) * 7)
        refuses_most(self, TooGreat, 60, closed_book, full)
        self.assertEqual(alike_from(full, full), 0)
        self.assertIs(follows_all(full, full, 6), True)
        self.assertEqual(parting(full, (997, full[1], ()))[:2], (5, 1))
        nought = (997, full[1], tuple((3, ((1, kind, (0, 1, 2)),)) for kind in range(7)))
        self.assertEqual(alike_from(full, nought), 6)
        self.assertEqual([alike_at(full, nought, many) for many in range(8)], [True] * 3 + [False] * 3 + [True] * 2)

    def test_too_great(self):
        none = SEVEN[:2] + ((),)
        for many in (0, 3, 6, 40):
            refuses_most(self, TooGreat, 6, follows_all, SEVEN, none, many)
            # The other one's own closed list does not count, but those of its sayings that don't hold do.
            refuses_most(self, TooGreat, 6, follows_all, none, SEVEN, many)
            self.assertIs(follows_all(NULLS, SEVEN, many), True)
            for one, other in ((SEVEN, none), (none, SEVEN), (SEVEN, NULLS), (NULLS, SEVEN)):
                refuses_most(self, TooGreat, 6, alike_at, one, other, many)
        for one, other in ((SEVEN, none), (none, SEVEN), (SEVEN, NULLS), (NULLS, SEVEN), (SEVEN, SEVEN)):
            for call, more in ((alike_from, ()), (parting, ()), (is_parting, (None,)), (is_parting, (6, 0, ()))):
                refuses_most(self, TooGreat, 6, call, one, other, *more[:1])

    def test_too_great_with_one_saying_more(self):
        # Neither closed list is too great, that of the book with the other one's saying is.
        one = (0, (0, 1), ((4, ((3, 1, (3,)), (-2, 0, ()))),))
        other = (0, (0, 1), ((5, ((-4, 1, (1,)),)),))
        for many in (0, 4, 5, 6, 40):
            refuses_most(self, TooGreat, 6, follows_all, one, other, many)
            refuses_most(self, TooGreat, 6, alike_at, one, other, many)
            refuses_most(self, TooGreat, 6, alike_at, other, one, many)
        refuses_most(self, TooGreat, 6, alike_from, one, other)
        refuses_most(self, TooGreat, 6, alike_from, other, one)
        refuses_most(self, TooGreat, 6, both, one, other)
        many, which, table = parting(one, other)
        self.assertEqual((many, which), (4, 1))
        self.assertIs(is_parting(one, other, (many, which, table)), True)

    def test_wrong_parameters(self):
        for call, more in ((follows_all, (3,)), (alike_at, (3,)), (alike_from, ()), (parting, ()), (both, ()),
                           (either, ()), (is_parting, (None,))):
            for place, book in WRONG_BOOKS:
                refuses_place(self, BadBook, place, call, book, None, *more)
                refuses_place(self, BadBook, place, call, SUMS, book, *more)
                refuses_place(self, BadBook, place, call, SEVEN, book, *more)
            for book in ODD:
                refuses_place(self, BadBook, (), call, book, SUMS, *more)
                refuses_place(self, BadBook, (), call, SUMS, book, *more)
            for other in ((2, (1,), ()), (0, (1, 1), ()), (0, (2,), ()), (3, (1,), SUMS[2]), (0, (0,), ())):
                refuses_value(self, BadParameter, other, call, SUMS, other, *more)
                refuses_value(self, BadParameter, SEVEN, call, other, SEVEN, *more)
            refuses_value(self, BadParameter, (0, (2, 1), ()), call, (0, (1, 2), ()), (0, (2, 1), ()), *more)
            bad = {0: Placed((BadBook, (0, (1,), (None,)), (2, 0))), 1: (0, (2,), ())}
            if len(more) and more[0] is not None:
                bad[2] = 41
            first_refused(self, call, (SUMS, ALIKE) + more, bad)
            bad[1] = Placed((BadBook, (0, (1,), (NULL, None)), (2, 1)))
            first_refused(self, call, (SUMS, ALIKE) + more, bad)
        for many in WRONG_MANY:
            for call in (follows_all, alike_at):
                refuses_value(self, BadParameter, many, call, SUMS, ALIKE, many)
                refuses_value(self, BadParameter, many, call, SEVEN, SEVEN, many)


class Parting(unittest.TestCase):
    def check_parting(self, one, other):
        found = parting(one, other)
        many, which, table = found
        self.assertIs(need_table(one, many, table), table)
        keeper, breaker = ((one, other), (other, one))[which]
        self.assertIsNone(plain.broken_at(keeper, many, table))
        self.assertIsNotNone(plain.broken_at(breaker, many, table))
        self.assertIs(is_parting(one, other, found), True)
        self.assertIs(is_parting(book=one, other=other, value=found), True)
        self.assertIs(is_parting(one, other, (many, 1 - which, table)), False)
        self.assertIs(is_parting(other, one, found), False if which == 0 else is_parting(other, one, found))
        self.assertEqual(parting(book=one, other=other), found)
        return found

    def test_the_example(self):
        self.assertEqual(self.check_parting(ALIKE, SUMS)[:2], (2, 0))
        self.assertEqual(self.check_parting(SUMS, ALIKE)[:2], (2, 0))
        for value in ((2, 0, ((1, 1), (1, 1))), (2, 0, ((-7, 3), (-7, 3)))):
            self.assertIs(is_parting(ALIKE, SUMS, value), True)
        for value in ((2, 0, ((1, 1), (-1, 1))), (2, 1, ((1, 1), (-1, 1))), (2, 1, ((1, 1), (1, 1))),
                      (3, 0, ((1, 1), (1, 1), (1, 1))), (2, 0, ((0, 1), (0, 1))), (2, 0, ((1, 1), (2, 1))),
                      (1, 0, ((1, 1),)), (0, 0, ())):
            self.assertIs(is_parting(ALIKE, SUMS, value), False)
        self.assertIs(is_parting(SUMS, ALIKE, (2, 0, ((1, 1), (-1, 1)))), True)

    def test_which(self):
        self.assertEqual(self.check_parting(NOTHING, NULLS)[:2], (1, 0))
        self.assertEqual(self.check_parting(NULLS, NOTHING)[:2], (1, 1))
        self.assertIs(is_parting(NULLS, NOTHING, (1, 1, ((5, 7),))), True)
        self.assertIs(is_parting(NULLS, NOTHING, (1, 0, ((5, 7),))), False)
        self.assertEqual(self.check_parting(NULLS, SUMS)[:2], (1, 1))
        refusal(self, NoRow, parting, NULLS, (0, (1,), (NULL, PLUS)))
        for value in ODD + ((1, 0, ((1, 1),)), (0, 0, ()), None):
            self.assertIs(is_parting(NULLS, (0, (1,), (NULL, PLUS)), value), False)
        nullary = (3, (0,), ((0, ((1, 0, ()),)),))
        self.assertEqual(self.check_parting(nullary, (3, (0,), ()))[:2], (0, 1))

    def test_by_elimination(self):
        told = {}
        for _, one, other in some_books(211, 150):
            unlike = [(many, plain.unlike_rows(one, other, many)) for many in range(7)]
            unlike = [(many, which) for many, which in unlike if which != (False, False)]
            if unlike:
                found = self.check_parting(one, other)
                many, (mine, yours) = unlike[0]
                # A table keeps the one and not the other where the other one says what the one does not.
                self.assertEqual(found[:2], (many, 0 if yours else 1), (one, other))
                self.assertIs(alike_at(one, other, many), False)
                self.assertTrue(all(alike_at(one, other, less) for less in range(many)))
                widths = [width for book, sayings in ((one, other[2]), (other, one[2])) for width, terms in sayings
                          if not holds_at(book, (width, terms), width)]
                self.assertEqual(many, min(widths))
                turned_about = self.check_parting(other, one)
                self.assertEqual(turned_about[:2], (many, 0 if mine else 1))
                told[found[:2]] = told.get(found[:2], 0) + 1
            else:
                refusal(self, NoRow, parting, one, other)
                self.assertIs(is_parting(one, other, (2, 0, ())), False)
        self.assertGreater(len(told), 4)

    def test_bent_values(self):
        right = (2, 0, ((1, 1), (1, 1)))
        for value in ODD + ((), right[:2], right + (0,), list(right), TupleChild(right)):
            self.assertIs(is_parting(ALIKE, SUMS, value), False)
        for wrong in ODD + (IntChild(2), IntChild(0), -1, 40, 41, 10 ** 30, (2,), Spiteful()):
            self.assertIs(is_parting(ALIKE, SUMS, (wrong,) + right[1:]), False)
            self.assertIs(is_parting(ALIKE, SUMS, (2, wrong) + right[2:]), False)
            self.assertIs(is_parting(ALIKE, SUMS, (2, 0, wrong)), False)
            self.assertIs(is_parting(ALIKE, SUMS, (2, 0, ((1, 1), wrong))), False)
        for number in NO_FRACTIONS:
            self.assertIs(is_parting(ALIKE, SUMS, (2, 0, (number, (1, 1)))), False)
        for table in ([(1, 1), (1, 1)], TupleChild(right[2]), right[2] * 2, right[2][:1], ((2, 2), (1, 1))):
            self.assertIs(is_parting(ALIKE, SUMS, (2, 0, table)), False)
        self.assertIs(is_parting(NOTHING, NULLS, (True, 0, ((1, 1),))), False)
        self.assertIs(is_parting(NOTHING, NULLS, (1, False, ((1, 1),))), False)
        self.assertIs(is_parting(NULLS, NOTHING, (1, True, ((1, 1),))), False)

    def test_any_table_that_parts_them(self):
        told = [0, 0]
        for rnd, one, other in some_books(212, 100):
            try:
                many, which, _ = parting(one, other)
            except NoRow:
                continue
            keeper, breaker = ((one, other), (other, one))[which]
            for table in (plain.kept_table(keeper, many, rnd), plain.kept_table(breaker, many, rnd),
                          plain.some_table(one, many, rnd)):
                right = plain.broken_at(keeper, many, table) is None and plain.broken_at(breaker, many, table) is not None
                told[right] += 1
                self.assertIs(is_parting(one, other, (many, which, table)), right)
        self.assertGreater(min(told), 30)


class Both(unittest.TestCase):
    def test_the_example(self):
        self.assertEqual(both(ALIKE, SUMS), (0, (1,), ((2, ((1, 0, (0,)),)), (2, ((1, 0, (1,)),)))))
        self.assertEqual(both(book=SUMS, other=ALIKE), both(ALIKE, SUMS))

    def test_it_is_the_closed_book_of_all_sayings(self):
        for _, one, other in some_books(221, 100):
            found = both(one, other)
            members = plain.closed_list((one[0], one[1], one[2] + other[2]))[0]
            self.assertEqual(found, (one[0], one[1], members))
            self.assertEqual(found, both(other, one))
            self.assertEqual(found, closed_book(found))
            self.assertIs(need_book(found), found)

    def test_tables(self):
        for rnd, one, other in some_books(222, 60):
            found = both(one, other)
            many = rnd.randint(0, 4)
            for table in (plain.some_table(one, many, rnd), plain.kept_table(one, many, rnd),
                          plain.kept_table(found, many, rnd)):
                self.assertIs(keeps(found, many, table), keeps(one, many, table) and keeps(other, many, table))

    def test_more_than_sixty_sayings(self):
        sixty = (0, (1,), (NULL,) * 60)
        self.assertEqual(both(sixty, (0, (1,), (PLUS,) * 60)), NULLS)
        self.assertEqual(both(sixty, sixty), NULLS)

    def test_too_great(self):
        none = SEVEN[:2] + ((),)
        refuses_most(self, TooGreat, 6, both, SEVEN, none)
        refuses_most(self, TooGreat, 6, both, none, SEVEN)
        self.assertEqual(both(SEVEN, NULLS), NULLS)
        full = full_book((3,) * 7)
        half = full[:2] + (full[2][:12],)
        rest = full[:2] + (full[2][12:],)
        refuses_most(self, TooGreat, 60, both, half, rest)
        refuses_most(self, TooGreat, 60, both, full, full)
        self.assertEqual(len(both(half, half)[2]), 36)
        wide = full_book((3,) * 6 + (1,), ((6, ((1, 6, (5,)), (996, 6, (0,)))),))
        refuses_most(self, TooGreat, 6, both, wide, wide)


class Either(unittest.TestCase):
    def test_ordinary(self):
        # The numbers of the ends of three places are unlike in neither book, nor is what is between.
        self.assertEqual(either(ALIKE, SUMS), (0, (1,), ((3, ((1, 0, (1,)), (-1, 0, (0,)))),
                                                         (3, ((1, 0, (2,)), (-1, 0, (0,)))))))
        self.assertEqual(either(book=SUMS, other=NULLS), closed_book(SUMS))
        self.assertEqual(either(NULLS, SUMS), closed_book(SUMS))
        self.assertEqual(either(NULLS, NOTHING), NOTHING)
        self.assertEqual(either(NOTHING, NULLS), NOTHING)
        one = (0, (1, 1), ((1, ((1, 0, (0,)),)),))
        other = (0, (1, 1), ((1, ((1, 1, (0,)),)),))
        self.assertEqual(either(one, other), (0, (1, 1), ()))
        self.assertEqual(either(one, both(one, other)), one)

    def test_by_elimination(self):
        told = 0
        for _, one, other in some_books(231, 120):
            if not is_let(either, one, other):
                self.assertTrue(is_wide_with_copies(one, other))
                continue
            found = either(one, other)
            self.assertIs(need_book(found), found)
            members, _ = plain.members_of(one[0], lambda many: zassenhaus(one, other, many))
            self.assertEqual(found, (one[0], one[1], members), (one, other))
            self.assertEqual(found, either(other, one))
            self.assertEqual(found, closed_book(found))
            told += 0 < len(found[2])
        self.assertGreater(told, 40)

    def test_what_holds_in_both_holds_in_it(self):
        for rnd, one, other in some_books(232, 80):
            found = either(one, other)
            for width, terms in found[2]:
                for book in (one, other):
                    self.assertTrue(plain.is_made(book, width, terms))
                    self.assertTrue(len(book[2]) > 59 or holds_from(book, (width, terms)) == width)
            self.assertTrue(all(follows_all(book, found, many) for many in range(8) for book in (one, other)))
            many = rnd.randint(0, 4)
            for terms in (plain.something_made(one, many, rnd), plain.something_made(other, many, rnd)):
                in_both = plain.is_made(one, many, terms) and plain.is_made(other, many, terms)
                self.assertIs(plain.is_made(found, many, terms), in_both)

    def test_sums_of_tables_keep_it(self):
        for rnd, one, other in some_books(233, 60):
            found = either(one, other)
            many = rnd.randint(0, 4)
            mine, yours = plain.kept_table(one, many, rnd), plain.kept_table(other, many, rnd)
            table = tuple(plain.number(plain.value_in(one[0], plain.Fraction(*a) + plain.Fraction(*b)))
                          for a, b in zip(mine, yours))
            self.assertTrue(keeps(found, many, table))

    def test_dimensions(self):
        for _, one, other in some_books(234, 100):
            self.assertEqual(formula_plus(free_formula(both(one, other)), free_formula(either(one, other))),
                             formula_plus(free_formula(one), free_formula(other)), (one, other))

    def test_one_in_the_other(self):
        for rnd, one, other in some_books(235, 80):
            closed = closed_book(one)
            self.assertEqual(both(one, either(one, other)), closed)
            self.assertEqual(either(one, both(one, other)), closed)
            self.assertEqual(both(one, one), closed)
            self.assertEqual(either(one, one), closed)
            again = plain.told_otherwise(one, rnd)
            self.assertEqual(either(again, other), either(one, other))
            self.assertEqual(both(again, other), both(one, other))

    def test_mirrored(self):
        told = 0
        for _, one, other in some_books(236, 60, (1, 2, 3, 4)):
            try:
                for call in (both, either):
                    found = call(mirrored(one), mirrored(other))
                    self.assertEqual(found, closed_book(mirrored(call(one, other))))
                told += 1
            except TooGreat:
                pass
        self.assertGreater(told, 40)

    def test_eight_kinds(self):
        # With the copies there are sixteen; unknowns of unlike kinds are still told apart.
        kinds = (1,) * 8
        rnd = plain.dice(237)
        for field in (0, 2, 997):
            for _ in range(6):
                shared = plain.some_saying(field, kinds, rnd, (1, 2), 6)
                one = (field, kinds, (shared,) + plain.some_book(field, kinds, rnd, 2, (1, 2), 5)[2])
                other = (field, kinds, plain.some_book(field, kinds, rnd, 2, (1, 2), 5)[2] + (shared,))
                found = either(one, other)
                members, _ = plain.members_of(field, lambda many: zassenhaus(one, other, many), 4)
                self.assertEqual(tuple(saying for saying in found[2] if saying[0] <= 4), members)
                self.assertGreater(len(members), 0)

    def test_many_sayings(self):
        sixty = (0, (1,), (NULL,) * 60)
        self.assertEqual(either(sixty, sixty), NULLS)
        self.assertEqual(either(sixty, (0, (1,), (PLUS,) * 60)), closed_book(SUMS))

    def test_too_great(self):
        none = SEVEN[:2] + ((),)
        refuses_most(self, TooGreat, 6, either, SEVEN, SEVEN)
        # The list by which it is found is too great, not the one that it would be.
        refuses_most(self, TooGreat, 6, either, SEVEN, none)
        refuses_most(self, TooGreat, 6, either, none, SEVEN)
        refuses_most(self, TooGreat, 6, either, SEVEN, NULLS)
        full = full_book((3,) * 7)
        refuses_most(self, TooGreat, 60, either, full, full)
        self.assertEqual(either(full, (997, full[1], ()))[2], ())
        half = full[:2] + (full[2][:20],)
        self.assertEqual(len(either(full, half)[2]), 60)
        self.assertEqual(either(full, half), closed_book(half))
        wide = full_book((3,) * 6 + (1,), ((6, ((1, 6, (5,)), (996, 6, (0,)))),))
        refuses_most(self, TooGreat, 6, either, wide, wide)


class AllAtOnce(unittest.TestCase):
    def test_nothing_else_is_raised(self):
        rnd = plain.dice(241)
        for _ in range(60):
            kinds = rnd.choice(((1,), (2,), (1, 2), (0, 1)))
            field = rnd.choice((0, 2, 5))
            one, other = (plain.some_book(field, kinds, rnd, 2, (3, 4, 5), 4) for _ in range(2))
            for call in (alike_from, parting, both, either):
                try:
                    call(one, other)
                except RisingError as told:
                    self.assertIn(type(told), (TooGreat, NoRow) if call is parting else (TooGreat,))


if __name__ == "__main__":
    unittest.main()
