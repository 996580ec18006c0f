"""[8], [22], [36], [37] Kinds that are not seen."""

import unittest
from itertools import combinations, product

from risingsays.closing import closed_book, closed_hidden
from risingsays.errors import BadBook, BadParameter, BadTable, NoRow, TooGreat
from risingsays.hiding import comes_from, is_come_from, seen_book, seen_part
from risingsays.sayings import need_book, unknowns
from risingsays.tables import keeps, need_table
from tests import plain
from tests.odd import (ODD, IntChild, Placed, Spiteful, TupleChild, first_refused, refusal, refuses_most, refuses_place,
                       refuses_value)
from tests.test_closing import full_book
from tests.test_tables import NO_FRACTIONS, WRONG_BOOKS, WRONG_MANY

PAIRS = (0, (2,), ((3, ((1, 0, (1, 2)), (-1, 0, (0, 2)), (1, 0, (0, 1)))),))
DIFFERENCES = (0, (1, 2), ((2, ((1, 1, (0, 1)), (-1, 0, (1,)), (1, 0, (0,)))),))
# With the kind 0 hidden its closed list has a member of more than six places, otherwise it has not.
WIDE = (0, (0, 1), ((6, ((1, 1, (5,)), (1, 0, ()))),))
ONE = (1, 1)
NOUGHT = (0, 1)
WRONG_HIDDEN = ODD + (0, (2,), (-1,), (0, 0), (1, 0), [0], (0, 1), (0, 1, 2), (True,), (0.0,), (None,), ("0",), ((0,),),
                      TupleChild((0,)), (IntChild(0),))


def lots(count):
    """All that may be hidden of so many kinds."""
    return [lot for size in range(count) for lot in combinations(range(count), size)]


def some_hidden(seed, turns, widths=(1, 2, 3)):
    rnd = plain.dice(seed)
    for _ in range(turns):
        field = rnd.choice((0, 0, 2, 3, 997))
        kinds = rnd.choice([kinds for kinds in plain.KINDS_LOTS if min(kinds) <= max(widths) and len(kinds) < 5])
        book = plain.some_book(field, kinds, rnd, rnd.choice((1, 2, 2, 3)), widths)
        yield rnd, book, rnd.choice(lots(len(kinds)))


def seen_kinds(book, hidden):
    return tuple(arity for kind, arity in enumerate(book[1]) if kind not in hidden)


def plain_seen(book, hidden):
    """[36] by elimination, the hidden unknowns first: what is left without them, as the closed list tells it."""
    seen = [kind for kind in range(len(book[1])) if kind not in hidden]
    members = plain.closed_list(book, 6, hidden)[0]
    return tuple((width, tuple((coef, seen.index(kind), places) for coef, kind, places in terms))
                 for width, terms in members if all(kind in seen for _, kind, _ in terms))


def can_come(book, hidden, many, table):
    """Whether hidden numbers can be put to the table: elimination of the hidden unknowns."""
    pivots = plain.made_pivots(book, many, plain.key_with(hidden))
    seen = [unknown for unknown in plain.unknowns(book[1], many) if unknown[0] not in hidden]
    at = {unknown: plain.Fraction(*number) for unknown, number in zip(seen, table)}
    return all(plain.value_in(book[0], sum(coef * at[unknown] for unknown, coef in row.items())) == 0
               for lead, row in pivots.items() if lead[0] not in hidden)


def part(book, hidden, many, table):
    return tuple(number for (kind, _), number in zip(plain.unknowns(book[1], many), table) if kind not in hidden)


class SeenBook(unittest.TestCase):
    def test_the_example(self):
        self.assertEqual(seen_book(DIFFERENCES, (0,)), PAIRS)
        self.assertEqual(seen_book(book=DIFFERENCES, hidden=(1,)), (0, (1,), ()))

    def test_nothing_hidden(self):
        for _, book, _ in some_hidden(141, 40):
            self.assertEqual(seen_book(book, ()), closed_book(book))

    def test_by_elimination(self):
        for _, book, hidden in some_hidden(142, 120):
            told = seen_book(book, hidden)
            self.assertEqual(told, (book[0], seen_kinds(book, hidden), plain_seen(book, hidden)), (book, hidden))
            self.assertIs(need_book(told), told)
            self.assertEqual(closed_book(told), told)

    def test_each_lot_of_kinds(self):
        rnd = plain.dice(143)
        for field, kinds in product((0, 3), ((1, 1, 1), (0, 1, 2), (2, 1, 1))):
            book = plain.some_book(field, kinds, rnd, 2, (1, 2), 4)
            for hidden in lots(3):
                self.assertEqual(seen_book(book, hidden)[2], plain_seen(book, hidden), (book, hidden))

    def test_two_goes(self):
        for rnd, book, _ in some_hidden(144, 80):
            kinds = list(range(len(book[1])))
            rnd.shuffle(kinds)
            first = tuple(sorted(kinds[:rnd.randint(0, len(kinds) - 1)]))
            left = [kind for kind in range(len(kinds)) if kind not in first]
            second = tuple(sorted(rnd.sample(range(len(left)), rnd.randint(0, len(left) - 1))))
            both = tuple(sorted(first + tuple(left[at] for at in second)))
            self.assertEqual(seen_book(seen_book(book, first), second), seen_book(book, both))

    def test_tables_that_keep_it_are_those_that_come_from_tables(self):
        told = [0, 0]
        for rnd, book, hidden in some_hidden(145, 100):
            seen = seen_book(book, hidden)
            many = rnd.randint(0, 4)
            for table in (plain.some_table(seen, many, rnd), plain.kept_table(seen, many, rnd),
                          part(book, hidden, many, plain.kept_table(book, many, rnd))):
                kept = keeps(seen, many, table)
                self.assertIs(kept, can_come(book, hidden, many, table))
                told[kept] += 1
        self.assertGreater(min(told), 30)

    def test_too_great(self):
        closed_book(WIDE)
        refuses_most(self, TooGreat, 6, seen_book, WIDE, (0,))
        self.assertEqual(seen_book(WIDE, (1,)), (0, (0,), ()))
        self.assertEqual(len(seen_book(full_book((3,) * 6), (0,))[2]), 60)
        refuses_most(self, TooGreat, 60, seen_book, full_book((3,) * 7), (3,))
        refuses_most(self, TooGreat, 60, seen_book, full_book((3,) * 6), ())
        wide = full_book((3,) * 6 + (1,), ((6, ((1, 6, (5,)), (996, 6, (0,)))),))
        # Also if the member that is too great is not seen.
        for hidden in ((), (0,), (6,), (0, 1, 2, 3, 4, 6)):
            refuses_most(self, TooGreat, 6, seen_book, wide, hidden)

    def test_wrong_parameters(self):
        for call, more in ((seen_book, ()), (comes_from, (41, None)), (is_come_from, (41, None, None)),
                           (seen_part, (41, None))):
            for place, book in WRONG_BOOKS:
                refuses_place(self, BadBook, place, call, book, None, *more)
            for book in ODD:
                refuses_place(self, BadBook, (), call, book, (0,), *more)
            for hidden in WRONG_HIDDEN:
                refuses_value(self, BadParameter, hidden, call, DIFFERENCES, hidden, *more)
            for hidden in ((0,), (1,), None):
                refuses_value(self, BadParameter, hidden, call, PAIRS, hidden, *more)
            refuses_value(self, BadParameter, (0, 1), call, WIDE, (0, 1), *more)
        first_refused(self, seen_book, (DIFFERENCES, (0,)),
                      {0: Placed((BadBook, (0, (1,), (None,)), (2, 0))), 1: (0, 1)})


class ComesFrom(unittest.TestCase):
    def check_whole(self, book, hidden, many, table):
        found = comes_from(book, hidden, many, table)
        self.assertIs(need_table(book, many, found), found)
        self.assertIsNone(plain.broken_at(book, many, found))
        self.assertEqual(part(book, hidden, many, found), table)
        self.assertEqual(seen_part(book, hidden, many, found), table)
        self.assertIs(is_come_from(book, hidden, many, table, found), True)
        self.assertIs(is_come_from(book=book, hidden=hidden, many=many, table=table, value=found), True)
        self.assertEqual(comes_from(book=book, hidden=hidden, many=many, table=table), found)
        return found

    def test_the_example(self):
        # Around each three places the pairs come to nothing, or not.
        self.check_whole(DIFFERENCES, (0,), 3, ((2, 1), (5, 1), (3, 1)))
        refusal(self, NoRow, comes_from, DIFFERENCES, (0,), 3, ((2, 1), (5, 1), (4, 1)))
        self.check_whole(DIFFERENCES, (1,), 3, ((2, 1), (5, 1), (4, 1)))
        self.check_whole(DIFFERENCES, (0,), 0, ())
        self.check_whole(DIFFERENCES, (0,), 1, ())

    def test_ordinary(self):
        told = [0, 0]
        for rnd, book, hidden in some_hidden(151, 150):
            many = rnd.randint(0, 4)
            seen = (book[0], seen_kinds(book, hidden), ())
            for table in (plain.some_table(seen, many, rnd), plain.kept_table(seen_book(book, hidden), many, rnd),
                          part(book, hidden, many, plain.kept_table(book, many, rnd))):
                can = can_come(book, hidden, many, table)
                told[can] += 1
                if can:
                    self.check_whole(book, hidden, many, table)
                else:
                    refusal(self, NoRow, comes_from, book, hidden, many, table)
        self.assertGreater(min(told), 40)

    def test_nothing_hidden(self):
        for rnd, book, _ in some_hidden(152, 30):
            many = rnd.randint(0, 4)
            table = plain.kept_table(book, many, rnd)
            self.assertEqual(self.check_whole(book, (), many, table), table)

    def test_many_places(self):
        book = DIFFERENCES
        table = tuple((other * other - one * one, 3) for _, (one, other) in unknowns((2,), 27))
        table = tuple(plain.number(plain.Fraction(*number)) for number in table)
        self.check_whole(book, (0,), 27, table)
        refusal(self, NoRow, comes_from, book, (0,), 27, table[:-1] + ((1, 7),))

    def test_bounds(self):
        # Of the seen unknowns ahead of the table, of all behind it, then the members, then NoRow.
        book = (0, (1, 2), ((2, ((1, 0, (1,)),)),))
        for call, more in ((comes_from, ()), (is_come_from, (None,))):
            refuses_most(self, TooGreat, 400, call, book, (0,), 29, None, *more)
            refuses_place(self, BadTable, (), call, book, (1,), 28, None, *more)
            refuses_place(self, BadTable, (), call, book, (0,), 28, (ONE,), *more)
            refuses_most(self, TooGreat, 400, call, book, (1,), 28, (ONE,) * 28, *more)
            refuses_most(self, TooGreat, 400, call, book, (0,), 28, (ONE,) * 378, *more)
            wide = (0, (0, 1, 2), WIDE[2])
            refuses_most(self, TooGreat, 400, call, wide, (0, 2), 28, (ONE,) * 28, *more)
        refuses_most(self, TooGreat, 6, comes_from, WIDE, (0,), 8, tuple((place, 1) for place in range(8)))
        refuses_most(self, TooGreat, 6, comes_from, WIDE, (0,), 0, ())
        refuses_most(self, TooGreat, 400, seen_part, book, (0,), 28, None)
        # More than sixty members are let here.
        full = full_book((3,) * 7)
        self.assertEqual(comes_from(full, (0,), 6, (NOUGHT,) * 120), (NOUGHT,) * 140)
        refusal(self, NoRow, comes_from, full, (0,), 6, (ONE,) * 120)

    def test_the_judge_is_too_great_just_for_a_table_with_these_numbers(self):
        table = (ONE,) * 6
        refuses_most(self, TooGreat, 6, is_come_from, WIDE, (0,), 6, table, ((-1, 1),) + table)
        refuses_most(self, TooGreat, 6, is_come_from, WIDE, (0,), 6, table, ((9, 1),) + table)
        for value in ODD + (table, (), ((-1, 1),) + table[:5] + ((2, 1),), ((-1, 1),) + table + table, ((2, 2),) + table,
                            list(((-1, 1),) + table)):
            self.assertIs(is_come_from(WIDE, (0,), 6, table, value), False)

    def test_right_and_bent_values(self):
        table = ((2, 1), (5, 1), (3, 1))
        unknown = unknowns((1, 2), 3)
        self.assertEqual([kind for kind, _ in unknown], [0, 0, 1, 0, 1, 1])
        for start in (0, 1, -7):
            row = [(start, 1), (start + 2, 1), (start + 5, 1)]
            value = (row[0], row[1], (2, 1), row[2], (5, 1), (3, 1))
            self.assertIs(is_come_from(DIFFERENCES, (0,), 3, table, value), True)
            for at in range(6):
                for number in ((11, 1), (value[at][0], 7), None, value[at][0], list(value[at]), (True, 1)):
                    bent = value[:at] + (number,) + value[at + 1:]
                    self.assertIs(is_come_from(DIFFERENCES, (0,), 3, table, bent), False)
            self.assertIs(is_come_from(DIFFERENCES, (0,), 3, ((2, 1), (5, 1), (4, 1)), value), False)
            self.assertIs(is_come_from(DIFFERENCES, (0,), 3, table, list(value)), False)
            self.assertIs(is_come_from(DIFFERENCES, (0,), 3, table, TupleChild(value)), False)
            self.assertIs(is_come_from(DIFFERENCES, (0,), 3, table, value + (NOUGHT,)), False)
        for value in ODD + ((), table, (Spiteful(),) * 6):
            self.assertIs(is_come_from(DIFFERENCES, (0,), 3, table, value), False)

    def test_the_judge_by_chance(self):
        told = [0, 0]
        for rnd, book, hidden in some_hidden(153, 120):
            many = rnd.randint(1, 4)
            value = list(plain.kept_table(book, many, rnd))
            if rnd.random() < 0.5 and value:
                value[rnd.randrange(len(value))] = plain.some_number(book[0], rnd)
            value = tuple(value)
            right = plain.broken_at(book, many, value) is None
            told[right] += 1
            self.assertIs(is_come_from(book, hidden, many, part(book, hidden, many, value), value), right)
        self.assertGreater(min(told), 20)

    def test_wrong_parameters(self):
        table = ((2, 1), (5, 1), (3, 1))
        for call, more in ((comes_from, ()), (is_come_from, (None,))):
            for many in WRONG_MANY:
                refuses_value(self, BadParameter, many, call, DIFFERENCES, (0,), many, None, *more)
            for wrong in ODD + ((), table[:2], table * 2, list(table), TupleChild(table), (NOUGHT,) * 6):
                refuses_place(self, BadTable, (), call, DIFFERENCES, (0,), 3, wrong, *more)
            for number in NO_FRACTIONS:
                for at in range(3):
                    refuses_place(self, BadTable, (at,), call, DIFFERENCES, (0,), 3, table[:at] + (number,) * (3 - at), *more)
            refuses_place(self, BadTable, (0,), call, (3, (1, 1), ()), (0,), 1, ((3, 1),), *more)
            # Also ahead of members of more than six places.
            refuses_place(self, BadTable, (0,), call, WIDE, (0,), 1, (None,), *more)
            first_refused(self, call, (DIFFERENCES, (0,), 3, table) + more, {
                0: Placed((BadBook, (0, (1,), (None,)), (2, 0))), 1: (0, 1), 2: -1, 3: Placed((BadTable, (ONE,), ()))})


class SeenPart(unittest.TestCase):
    def test_ordinary(self):
        table = ((1, 1), (3, 1), (2, 1), (6, 1), (5, 1), (-3, 4))
        self.assertEqual(seen_part(DIFFERENCES, (0,), 3, table), ((2, 1), (5, 1), (-3, 4)))
        self.assertEqual(seen_part(DIFFERENCES, (1,), 3, table), ((1, 1), (3, 1), (6, 1)))
        self.assertEqual(seen_part(book=DIFFERENCES, hidden=(), many=3, table=table), table)
        self.assertEqual(seen_part(DIFFERENCES, (1,), 0, ()), ())

    def test_by_chance(self):
        for rnd, book, hidden in some_hidden(161, 60):
            many = rnd.randint(0, 5)
            table = plain.some_table(book, many, rnd)
            told = seen_part(book, hidden, many, table)
            self.assertEqual(told, part(book, hidden, many, table))
            self.assertIs(need_table((book[0], seen_kinds(book, hidden), ()), many, told), told)

    def test_closed_lists_do_not_count(self):
        self.assertEqual(seen_part(WIDE, (0,), 3, (ONE, NOUGHT, ONE, ONE)), (NOUGHT, ONE, ONE))
        refuses_most(self, TooGreat, 6, closed_hidden, WIDE, (0,))

    def test_wrong_parameters(self):
        table = (ONE,) * 6
        for many in WRONG_MANY:
            refuses_value(self, BadParameter, many, seen_part, DIFFERENCES, (0,), many, None)
        for wrong in ODD + ((), table[:3], table + table, list(table), TupleChild(table)):
            refuses_place(self, BadTable, (), seen_part, DIFFERENCES, (0,), 3, wrong)
        for number in NO_FRACTIONS:
            for at in range(6):
                refuses_place(self, BadTable, (at,), seen_part, DIFFERENCES, (0,), 3, table[:at] + (number,) * (6 - at))
        first_refused(self, seen_part, (DIFFERENCES, (0,), 3, table), {
            0: Placed((BadBook, (0, (1,), (None,)), (2, 0))), 1: (0, 1), 2: -1, 3: Placed((BadTable, (ONE,), ()))})


if __name__ == "__main__":
    unittest.main()
