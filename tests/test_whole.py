"""[6], [8], [13], [15], [19], [22] to [33], [36] to [41], [43], [46], [48] One book through all the parts."""

import unittest

from risingsays.bringing import brought, is_closed
from risingsays.closing import closed_book, closed_hidden, closing_after
from risingsays.errors import NoRow, TooGreat
from risingsays.following import breaking, holds_at, holds_from, is_breaking
from risingsays.formulas import equal_from, formula_minus, formula_plus, value_at
from risingsays.free import basis, free_at, free_formula, lead_rows, solved
from risingsays.further import gone_on, is_gone_on, stuck
from risingsays.gaps import gaps_of
from risingsays.going import endless, going, going_back, going_both, rest_of
from risingsays.hiding import comes_from, seen_book, seen_part
from risingsays.least import is_least, least_book, needless, new_by_width, without
from risingsays.making import is_made_of, made_of
from risingsays.orders import any_order, exchanged, is_nameless, naming
from risingsays.pairing import alike_at, alike_from, both, either, follows_all, parting
from risingsays.papers import closed_paper, is_closed_paper
from risingsays.primes import at_prime, bad_primes
from risingsays.rules import by_rules, rule_book
from risingsays.sayings import carried, mirrored, turned
from risingsays.sessions import begun, played, session_step
from risingsays.showing import holding_paper, is_holding_paper, is_shown, shown
from risingsays.tables import first_broken, keeps, nought_table, table_part, table_sum, worth
from tests import plain
from tests.odd import refusal


def some_books(seed, turns, widths=(0, 1, 2, 3), most=3):
    """Books whose closed lists, also with some kinds ahead and mirrored, have members of at most six places."""
    rnd = plain.dice(seed)
    while turns:
        field = rnd.choice((0, 0, 2, 3, 997))
        kinds = rnd.choice([kinds for kinds in plain.KINDS_LOTS if min(kinds) <= max(widths) and len(kinds) < 4])
        book = plain.some_book(field, kinds, rnd, rnd.randint(1, most), widths)
        saying = plain.some_saying(field, kinds, rnd, widths)
        try:
            for one in (book, book[:2] + (book[2] + (saying,),)):
                closed_book(one)
                closed_book(plain.mirrored_book(one))
        except TooGreat:
            continue
        turns -= 1
        yield rnd, book, saying


def alone(book, saying):
    return book[:2] + ((saying,),)


def longer(book, saying):
    return book[:2] + (book[2] + (saying,),)


class OneSaying(unittest.TestCase):
    def test_from_where_on_it_holds(self):
        # The formulas, the two books, where they part, papers and sessions tell one and the same number.
        nowhere = later = 0
        for _, book, saying in some_books(411, 120):
            start = holds_from(book, saying)
            more = longer(book, saying)
            nowhere += start is None
            later += start not in (None, saying[0])
            equal = equal_from(free_formula(book), free_formula(more))
            self.assertEqual(start, None if equal is None else max(equal, saying[0]))
            together = both(book, alone(book, saying))
            self.assertEqual(together, closed_book(more))
            equal = equal_from(free_formula(book), free_formula(together))
            self.assertEqual(start, None if equal is None else max(equal, saying[0]))
            self.assertEqual(alike_from(book, more), 0 if start == saying[0] else start)
            state = (book, ())
            self.assertEqual(session_step(state, ("ask", saying)), (state, start))
            if start == saying[0]:
                refusal(self, NoRow, parting, book, more)
                refusal(self, NoRow, breaking, book, saying, saying[0])
                self.assertEqual(closed_book(more), closed_book(book))
                self.assertEqual(least_book(more), least_book(book))
                self.assertEqual(needless(more[:2] + ((saying,) + book[2],))[0], 0)
            else:
                many, which, table = parting(book, more)
                self.assertEqual((many, which), (saying[0], 0))
                self.assertIs(is_breaking(book, saying, many, table), True)
            if start is None:
                refusal(self, NoRow, holding_paper, book, saying)
            else:
                paper = holding_paper(book, saying)
                self.assertEqual(paper[0], start)
                self.assertIs(is_holding_paper(book, saying, paper), True)
        self.assertGreater(nowhere, 20)
        self.assertGreater(later, 3)

    def test_on_each_number_of_places(self):
        for _, book, saying in some_books(412, 60):
            width, terms = saying
            start = holds_from(book, saying)
            for many in range(6):
                told = many < width or (start is not None and start <= many)
                self.assertIs(holds_at(book, saying, many), told)
                self.assertIs(follows_all(book, alone(book, saying), many), told)
                self.assertIs(alike_at(book, longer(book, saying), many), told)
                self.assertIs(value_at(free_formula(book), many) == value_at(free_formula(longer(book, saying)), many), told)
                left = [brought(closed_book(book), many, carried(book[0], book[1], places, terms))
                        for places in plain.combinations(range(many), width)]
                self.assertIs(all(one == () for one in left), told)
                if told:
                    refusal(self, NoRow, breaking, book, saying, many)
                    for places in plain.combinations(range(many), width):
                        self.assertIs(is_shown(book, saying, many, places, shown(book, saying, many, places)), True)
                else:
                    table = breaking(book, saying, many)
                    self.assertTrue(keeps(book, many, table))
                    number, places = first_broken(alone(book, saying), many, table)
                    self.assertEqual(number, 0)
                    self.assertNotEqual(worth(book, many, table, carried(book[0], book[1], places, terms)), (0, 1))
                    self.assertIsNotNone(stuck(longer(book, saying), many, table, 0))

    def test_books_told_otherwise(self):
        for rnd, book, saying in some_books(413, 60):
            again = plain.told_otherwise(book, rnd)
            self.assertEqual(holds_from(again, saying), holds_from(book, saying))
            self.assertEqual(closed_book(again), closed_book(book))
            self.assertEqual(lead_rows(again), lead_rows(book))
            self.assertEqual(free_formula(again), free_formula(book))
            self.assertEqual(least_book(again), least_book(book))
            self.assertEqual(alike_from(again, book), 0)
            field, kinds, _ = book
            turned_about = plain.mirrored_book(book)
            self.assertEqual(turned_about[2], tuple(mirrored(field, kinds, one) for one in book[2]))
            self.assertEqual(holds_from(turned_about, mirrored(field, kinds, saying)), holds_from(book, saying))
            self.assertEqual(free_formula(turned_about), free_formula(book))
            self.assertEqual(new_by_width(turned_about), new_by_width(book))

    def test_kinds_in_another_order(self):
        for rnd, book, saying in some_books(414, 60):
            field, kinds, sayings = book
            place = list(range(len(kinds)))
            rnd.shuffle(place)
            other_kinds = tuple(kinds[place.index(at)] for at in range(len(kinds)))

            def moved(one):
                return (one[0], plain.terms_of({(place[kind], places): coef for (kind, places), coef
                                                in plain.row_of(one[1]).items()}))

            other = (field, other_kinds, tuple(moved(one) for one in sayings))
            try:
                self.assertEqual(free_formula(other), free_formula(book))
                self.assertEqual(holds_from(other, moved(saying)), holds_from(book, saying))
                self.assertEqual(alike_from(other, (field, other_kinds, (moved(saying),))),
                                 alike_from(book, alone(book, saying)))
                self.assertEqual(rest_of(other), rest_of(book))
            except TooGreat:
                continue
            self.assertEqual(new_by_width(other), new_by_width(book))
            for many in range(4):
                table = plain.some_table(book, many, rnd)
                at = {unknown: number for unknown, number in zip(plain.unknowns(kinds, many), table)}
                again = tuple(at[(place.index(kind), places)] for kind, places in plain.unknowns(other_kinds, many))
                self.assertIs(keeps(other, many, again), keeps(book, many, table))
                self.assertIs(stuck(other, many, again, 2) is None, stuck(book, many, table, 2) is None)


class WhatIsFree(unittest.TestCase):
    def test_leads_free_unknowns_and_tables(self):
        for rnd, book, _ in some_books(421, 80):
            closed = closed_book(book)
            self.assertIs(is_closed(closed), True)
            self.assertEqual(closing_after(book, 5000)[1], closed[2])
            self.assertEqual(closed_hidden(book, ()), closed)
            self.assertIs(is_closed_paper(book, closed_paper(book)), True)
            rows = [[] for _ in book[1]]
            for width, terms in closed[2]:
                rows[terms[0][1]].append(gaps_of(width, terms[0][2]))
            self.assertEqual(lead_rows(book), tuple(tuple(sorted(lot)) for lot in rows))
            for many in range(6):
                free = free_at(book, many)
                self.assertEqual(len(free), value_at(free_formula(book), many))
                pivots = plain.made_pivots(book, many)
                self.assertEqual(free, tuple(one for one in plain.unknowns(book[1], many) if one not in pivots))
                numbers = tuple(plain.some_number(book[0], rnd) for _ in free)
                table = solved(book, many, numbers)
                self.assertTrue(keeps(book, many, table))
                total = nought_table(book, many)
                for number, one in zip(numbers, basis(book, many)):
                    total = table_sum(book, many, total, one, number)
                self.assertEqual(total, table)

    def test_free_in_both_and_in_either(self):
        for rnd, book, saying in some_books(422, 80):
            other = alone(book, saying)
            try:
                one, two = both(book, other), either(book, other)
            except TooGreat:
                continue
            self.assertEqual(formula_plus(free_formula(one), free_formula(two)),
                             formula_plus(free_formula(book), free_formula(other)))
            self.assertEqual(both(book, two), closed_book(book))
            self.assertEqual(either(book, one), closed_book(book))
            start = holds_from(book, saying)
            self.assertIs(two == closed_book(other), start == saying[0])
            self.assertEqual(alike_from(two, other), 0 if start == saying[0] else start)
            self.assertEqual(formula_minus(free_formula(book), free_formula(one)),
                             formula_minus(free_formula(two), free_formula(other)))

    def test_what_is_made_is_shown(self):
        for rnd, book, _ in some_books(423, 60):
            many = rnd.randint(0, 4)
            terms = plain.something_made(book, many, rnd)
            parts = made_of(book, many, terms)
            self.assertIs(is_made_of(book, many, terms, parts), True)
            self.assertEqual(brought(closed_book(book), many, terms), ())
            if terms:
                self.assertIs(holds_at(book, (many, terms), many), True)
            for other in (least_book(book), closed_book(book), without(book, needless(book))):
                self.assertIs(is_made_of(other, many, terms, made_of(other, many, terms)), True)


class GoingOn(unittest.TestCase):
    def test_tables(self):
        told = [0, 0]
        for rnd, book, _ in some_books(431, 80):
            many, more = rnd.randint(0, 3), rnd.randint(0, 3)
            asked = going(book, more)
            whole = plain.kept_table(book, many + more, rnd)
            part = table_part(book, many + more, whole, tuple(range(many)))
            self.assertIs(is_gone_on(book, many, part, more, whole), True)
            self.assertTrue(keeps(asked, many, part))
            self.assertTrue(keeps(going_back(book, more), many, table_part(book, many + more, whole,
                                                                           tuple(range(more, many + more)))))
            for table in (part, plain.kept_table(book, many, rnd), plain.some_table(book, many, rnd)):
                goes = keeps(asked, many, table)
                told[goes] += 1
                self.assertIs(stuck(book, many, table, more) is None, goes)
                if goes:
                    self.assertIs(is_gone_on(book, many, table, more, gone_on(book, many, table, more)), True)
                else:
                    self.assertEqual(stuck(book, many, table, more), first_broken(asked, many, table))
                    refusal(self, NoRow, gone_on, book, many, table, more)
        self.assertGreater(min(told), 40)

    def test_free_numbers_of_those_that_go_on(self):
        # What goes on is as free as the tables on more places are seen to be on the first ones.
        for _, book, _ in some_books(432, 60):
            for more in (0, 1, 2):
                for many in range(4):
                    count = len([one for one in free_at(book, many + more) if all(place < many for place in one[1])])
                    self.assertEqual(value_at(free_formula(going(book, more)), many), count)

    def test_going_on_and_sayings(self):
        for _, book, saying in some_books(433, 60):
            rest = rest_of(book)
            end = endless(book)
            self.assertEqual(going(book, rest), end)
            start = holds_from(book, saying)
            # What holds of the first places is made behind them.
            for width, terms in end[2]:
                self.assertIs(plain.is_made(book, width + rest, terms), True)
            if start == saying[0]:
                self.assertEqual(holds_from(end, saying), start)
            self.assertEqual(going_both(book, 0, rest), end)


class Kinds(unittest.TestCase):
    def test_seen_and_by_rules(self):
        for rnd, book, _ in some_books(441, 60):
            field, kinds, _ = book
            hidden = tuple(sorted(rnd.sample(range(len(kinds)), rnd.randint(0, len(kinds) - 1))))
            seen = [kind for kind in range(len(kinds)) if kind not in hidden]
            rules = tuple((kinds[kind], ((1, kind, tuple(range(kinds[kind]))),)) for kind in seen)
            try:
                found = seen_book(book, hidden)
            except TooGreat:
                continue
            self.assertEqual(rule_book(book, rules), found)
            self.assertEqual(seen_book(least_book(book), hidden), found)
            self.assertEqual(closed_book(found), found)
            many = rnd.randint(0, 4)
            table = plain.kept_table(book, many, rnd)
            part = seen_part(book, hidden, many, table)
            self.assertEqual(by_rules(book, rules, many, table), part)
            self.assertTrue(keeps(found, many, part))
            again = comes_from(book, hidden, many, part)
            self.assertTrue(keeps(book, many, again))
            self.assertEqual(seen_part(book, hidden, many, again), part)

    def test_going_on_is_seen(self):
        # To hide kinds and to go on may be asked in either order.
        compared = 0
        for rnd, book, _ in some_books(442, 80):
            if len(book[1]) < 2:
                continue
            hidden = (rnd.randrange(len(book[1])),)
            for more in (1, 2):
                try:
                    one = going(seen_book(book, hidden), more)
                except TooGreat:
                    continue
                seen = [kind for kind in range(len(book[1])) if kind not in hidden]
                compared += 1
                for many in range(3):
                    rows = [row for lead, row in plain.made_pivots(book, many + more, plain.key_with(hidden)).items()
                            if lead[0] in seen]
                    rows = plain.pivots_of(book[0], [{(seen.index(kind), places): coef for (kind, places), coef in row.items()}
                                                     for row in rows])
                    first = {lead: row for lead, row in rows.items() if all(place < many for place in lead[1])}
                    self.assertEqual(sorted(first), sorted(plain.made_pivots(one, many)))
        self.assertGreater(compared, 40)


class Others(unittest.TestCase):
    def test_least_books(self):
        for rnd, book, saying in some_books(451, 60):
            least = least_book(book)
            self.assertEqual(closed_book(least), closed_book(book))
            self.assertIs(is_least(least), True)
            self.assertEqual(least_book(without(book, needless(book))), least)
            self.assertEqual(holds_from(least, saying), holds_from(book, saying))
            self.assertEqual(both(least, alone(book, saying)), both(book, alone(book, saying)))
            self.assertEqual(any_order(least) == any_order(book), True)
            self.assertEqual(is_nameless(least), is_nameless(book))
            self.assertEqual(going(least, 2), going(book, 2))

    def test_nameless_books(self):
        told = [0, 0]
        for rnd, book, _ in some_books(452, 80):
            nameless = is_nameless(book)
            told[nameless] += 1
            self.assertIs(nameless, any_order(book) == closed_book(book))
            if nameless:
                refusal(self, NoRow, naming, book)
                many = rnd.randint(0, 4)
                order = tuple(rnd.sample(range(many), many))
                self.assertTrue(keeps(book, many, exchanged(book, many, plain.kept_table(book, many, rnd), order)))
            else:
                number, order, table = naming(book)
                saying = book[2][number]
                one = turned(book[0], book[1], saying, order)
                self.assertIs(holds_at(book, one, saying[0]), False)
                self.assertIs(is_breaking(book, one, saying[0], table), True)
        self.assertGreater(min(told), 15)

    def test_primes(self):
        for rnd, book, saying in some_books(453, 60):
            if book[0] != 0:
                continue
            bad = bad_primes(book, 13)
            for prime in (2, 3, 5, 7, 11, 13):
                modulo = at_prime(book, prime)
                if prime not in bad:
                    self.assertEqual(closed_book(modulo), at_prime(closed_book(book), prime))
                    self.assertEqual(free_formula(modulo), free_formula(book))
                    if prime not in bad_primes(least_book(book), 13):
                        self.assertEqual(closed_book(at_prime(least_book(book), prime)), closed_book(modulo))

    def test_sessions(self):
        for rnd, book, saying in some_books(454, 60):
            field, kinds, sayings = book
            deeds = [("kind", arity) for arity in kinds[1:]] + [("say", one) for one in sayings]
            deeds += [("ask", saying), ("free",), ("say", saying), ("free",), ("undo",), ("free",)]
            (told, past), answers = played(field, kinds[:1], tuple(deeds))
            self.assertEqual(told, book)
            self.assertEqual(len(past), len(kinds) - 1 + len(sayings))
            self.assertEqual(answers[-6:], (holds_from(book, saying), free_formula(book), None,
                                            free_formula(longer(book, saying)), None, free_formula(book)))
            self.assertEqual(past[:1], (begun(field, kinds[:1])[0],))


if __name__ == "__main__":
    unittest.main()
