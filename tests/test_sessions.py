"""[5], [10], [11], [25], [27], [47], [48] Sessions."""

import unittest

from risingsays.errors import BadBook, BadDeed, BadParameter, BadSaying, NoRow, RisingError, TooGreat
from risingsays.following import holds_from
from risingsays.formulas import value_at
from risingsays.free import free_formula
from risingsays.sessions import begun, need_state, played, session_step
from tests import plain
from tests.odd import (ODD, IntChild, Placed, Spiteful, TupleChild, first_refused, refusal, refuses_most, refuses_place,
                       refuses_value)
from tests.test_closing import SEVEN, full_book
from tests.test_following import WRONG_SAYINGS
from tests.test_tables import WRONG_BOOKS

NULL = (1, ((1, 0, (0,)),))
PLUS = (2, ((1, 0, (1,)), (1, 0, (0,))))
LESS = (2, ((1, 0, (1,)), (-1, 0, (0,))))
EMPTY = (0, (1,), ())
SUMS = (0, (1,), (PLUS,))
START = (EMPTY, ())


class StrChild(str):
    """A string of a kind of its own."""


def model(state, deed):
    """[48] The state behind a deed that is not refused, and its answer."""
    (field, kinds, sayings), past = state
    word = deed[0]
    if word == "ask":
        return state, holds_from(state[0], deed[1])
    if word == "free":
        return state, free_formula(state[0])
    if word == "undo":
        return (past[-1], past[:-1]), None
    book = {"say": lambda: (field, kinds, sayings + (deed[1],)),
            "unsay": lambda: (field, kinds, sayings[:deed[1]] + sayings[deed[1] + 1:]),
            "kind": lambda: (field, kinds + (deed[1],), sayings)}[word]()
    return (book, past + (state[0],)), None


def some_deed(state, rnd):
    """A deed that is let in the state."""
    (field, kinds, sayings), past = state
    words = ["say", "say", "ask", "free"] + ["unsay"] * (len(sayings) > 0) + ["undo"] * (len(past) > 0)
    word = rnd.choice(words + ["kind"] * (len(kinds) < 4))
    if word in ("say", "ask"):
        return (word, plain.some_saying(field, kinds, rnd, (1, 2, 3)))
    if word == "unsay":
        return (word, rnd.randrange(len(sayings)))
    if word == "kind":
        return (word, rnd.randint(0, 2))
    return (word,)


def some_sessions(seed, turns, length=14):
    """Deeds that are let, one after the other, with the states and answers that the document tells."""
    rnd = plain.dice(seed)
    for _ in range(turns):
        field = rnd.choice((0, 0, 2, 3, 997))
        kinds = rnd.choice(((1,), (2,), (1, 2), (0, 1)))
        state = ((field, kinds, ()), ())
        deeds, states, answers = [], [state], []
        for _ in range(rnd.randint(0, length)):
            deed = some_deed(state, rnd)
            try:
                state, answer = model(state, deed)
            except TooGreat:
                continue
            deeds.append(deed)
            states.append(state)
            answers.append(answer)
        yield rnd, field, kinds, deeds, states, answers


class Begun(unittest.TestCase):
    def test_ordinary(self):
        self.assertEqual(begun(0, (1,)), START)
        self.assertEqual(begun(field=997, kinds=(0, 1, 2, 3, 3, 2, 1, 0)), ((997, (0, 1, 2, 3, 3, 2, 1, 0), ()), ()))

    def test_wrong_parameters(self):
        for call, more in ((begun, ()), (played, ((),)), (played, (None,))):
            for field in ODD + (1, 4, 998, -2, IntChild(3), (0,)):
                refuses_place(self, BadBook, (0,), call, field, (1,), *more)
                refuses_place(self, BadBook, (0,), call, field, None, *more)
            for kinds in ODD + ((), (1,) * 9, (None,) * 9, [1], 1, TupleChild((1,))):
                refuses_place(self, BadBook, (1,), call, 0, kinds, *more)
            for arity in ODD + (-1, 4, IntChild(1), (1,), Spiteful()):
                refuses_place(self, BadBook, (1, 0), call, 0, (arity, arity), *more)
                refuses_place(self, BadBook, (1, 7), call, 2, (1,) * 7 + (arity,), *more)


class NeedState(unittest.TestCase):
    def test_what_is_let_is_returned(self):
        for state in (START, (SUMS, (EMPTY,)), (SUMS, (EMPTY,) * 200), (EMPTY, ((2, (3, 3), ()), SEVEN)), (SEVEN, ())):
            self.assertIs(need_state(state), state)
            self.assertIs(need_state(state=state), state)

    def test_wrong_states(self):
        def steps(state):
            return session_step(state, None)

        for call in (need_state, steps):
            for state in ODD + ((), (EMPTY,), (EMPTY, (), ()), [EMPTY, ()], TupleChild(START), EMPTY[0]):
                refuses_place(self, BadDeed, (), call, state)
            for place, book in WRONG_BOOKS:
                refuses_place(self, BadBook, place, call, (book, ()))
                refuses_place(self, BadBook, place, call, (book, None))
                refuses_place(self, BadDeed, (1, 0), call, (EMPTY, (book, book)))
                refuses_place(self, BadDeed, (1, 2), call, (EMPTY, (EMPTY, SUMS, book)))
                refuses_place(self, BadDeed, (1, 199), call, (EMPTY, (EMPTY,) * 199 + (book,)))
            for value in ODD:
                refuses_place(self, BadBook, (), call, (value, ()))
                refuses_place(self, BadDeed, (1, 0), call, (EMPTY, (value,)))
                refuses_place(self, BadDeed, (1,), call, (EMPTY, value))
            for past in ((EMPTY,) * 201, (None,) * 201, [EMPTY], TupleChild((EMPTY,)), 0, "ab"):
                refuses_place(self, BadDeed, (1,), call, (EMPTY, past))
        refuses_place(self, BadBook, (), need_state, (EMPTY, ())[::-1])


class SessionStep(unittest.TestCase):
    def test_the_example(self):
        state, answer = session_step(START, ("say", PLUS))
        self.assertEqual((state, answer), ((SUMS, (EMPTY,)), None))
        self.assertEqual(session_step(state, ("ask", NULL)), (state, 3))
        state, answer = session_step(state, ("undo",))
        self.assertEqual((state, answer), (START, None))
        self.assertEqual(session_step(state=state, deed=("ask", NULL)), (START, None))

    def test_each_deed(self):
        state = ((0, (1,), (PLUS, LESS, NULL)), (SUMS,))
        self.assertEqual(session_step(state, ("unsay", 1)), (((0, (1,), (PLUS, NULL)), (SUMS, state[0])), None))
        self.assertEqual(session_step(state, ("unsay", 0)), (((0, (1,), (LESS, NULL)), (SUMS, state[0])), None))
        self.assertEqual(session_step(state, ("unsay", 2)), (((0, (1,), (PLUS, LESS)), (SUMS, state[0])), None))
        self.assertEqual(session_step(state, ("kind", 0)), (((0, (1, 0), (PLUS, LESS, NULL)), (SUMS, state[0])), None))
        self.assertEqual(session_step(state, ("say", NULL)), (((0, (1,), (PLUS, LESS, NULL, NULL)), (SUMS, state[0])), None))
        self.assertEqual(session_step(state, ("undo",)), ((SUMS, ()), None))
        self.assertEqual(session_step(state, ("free",)), (state, ((), (0, 0, 0, 0))))
        self.assertEqual(session_step(state, ("ask", PLUS)), (state, 2))
        self.assertEqual(session_step((SUMS, ()), ("free",)), ((SUMS, ()), ((0, 1, 1), (0, 0, 0, 0))))
        # A past is what it is told to be, though no deed leads from it.
        self.assertEqual(session_step((SUMS, (SEVEN, (2, (3,), ()))), ("undo",)), (((2, (3,), ()), (SEVEN,)), None))

    def test_deeds_by_chance(self):
        words = {}
        for _, _, _, deeds, states, answers in some_sessions(391, 80):
            for deed, state, then, answer in zip(deeds, states, states[1:], answers):
                self.assertEqual(session_step(state, deed), (then, answer))
                self.assertIs(need_state(then), then)
                words[deed[0]] = words.get(deed[0], 0) + 1
                if deed[0] in ("say", "unsay", "kind"):
                    self.assertEqual(session_step(then, ("undo",)), (state, None))
                if deed[0] in ("ask", "free"):
                    self.assertEqual(then, state)
                if deed[0] == "say":
                    start = session_step(then, ("ask", deed[1]))[1] if len(then[0][2]) < 60 else None
                    self.assertEqual(start, deed[1][0])
        self.assertEqual(len(words), 6)
        self.assertGreater(min(words.values()), 30)

    def test_behind_a_saying_more_holds_and_less_is_free(self):
        compared = 0
        for rnd, field, kinds, _, states, _ in some_sessions(392, 60):
            state = states[-1]
            asked = plain.some_saying(field, state[0][1], rnd, (1, 2, 3))
            then = session_step(state, ("say", plain.some_saying(field, state[0][1], rnd, (1, 2, 3))))[0]
            try:
                before, after = session_step(state, ("ask", asked))[1], session_step(then, ("ask", asked))[1]
                free, freed = session_step(state, ("free",))[1], session_step(then, ("free",))[1]
            except TooGreat:
                continue
            compared += 1
            self.assertTrue(before is None or (after is not None and after <= before))
            self.assertTrue(all(value_at(freed, many) <= value_at(free, many) for many in range(12)))
        self.assertGreater(compared, 40)

    def test_no_deeds(self):
        for state in (START, (SEVEN, ()), (EMPTY, (EMPTY,) * 200)):
            for deed in ODD + ((), "say", ("say",), ("unsay",), ("kind",), ("ask",), ("free", None), ("undo", None), ("free", ()),
                               ("say", NULL, NULL), ("unsay", 0, 0), ("kind", 1, 1), ("ask", NULL, None), ("Say", NULL),
                               ("tell", NULL), ("", NULL), ("",), (None, NULL), (0, NULL), (True,), (b"free",), [("free",)],
                               ["free"], TupleChild(("free",)), (StrChild("free"),), (StrChild("say"), NULL), (Spiteful(),),
                               (Spiteful(), Spiteful()), (("free",),), ("free ",)):
                refuses_place(self, BadDeed, (), session_step, state, deed)
                refuses_place(self, BadDeed, (), played, 0, (1,), (deed,))

    def test_refused_deeds(self):
        state = ((0, (1,), (PLUS, NULL)), (EMPTY, SUMS))
        for saying in ODD:
            refuses_place(self, BadBook, (2, 2), session_step, state, ("say", saying))
            refuses_place(self, BadSaying, (), session_step, state, ("ask", saying))
        for place, saying in WRONG_SAYINGS:
            refuses_place(self, BadBook, (2, 2) + place, session_step, state, ("say", saying))
            refuses_place(self, BadSaying, place, session_step, state, ("ask", saying))
        for arity in ODD + (-1, 4, IntChild(1), (1,)):
            refuses_place(self, BadBook, (1, 1), session_step, state, ("kind", arity))
        for number in ODD + (-1, 2, 60, IntChild(1), (0,), 10 ** 30):
            refuses_value(self, BadParameter, number, session_step, state, ("unsay", number))
        for number in (0, None, Spiteful()):
            refuses_value(self, BadParameter, number, session_step, START, ("unsay", number))
        refusal(self, NoRow, session_step, START, ("undo",))
        refusal(self, NoRow, session_step, (SUMS, ()), ("undo",))
        first_refused(self, session_step, (START, ("free",)), {
            0: Placed((BadDeed, (EMPTY, (None,)), (1, 0))), 1: Placed((BadDeed, ("say",), ()))})

    def test_bounds_of_the_book(self):
        sixty = ((0, (1,), (NULL,) * 60), ())
        refuses_place(self, BadBook, (2,), session_step, sixty, ("say", NULL))
        refuses_place(self, BadBook, (2,), session_step, sixty, ("say", None))
        self.assertEqual(len(session_step(((0, (1,), (NULL,) * 59), ()), ("say", NULL))[0][0][2]), 60)
        eight = ((0, (1,) * 8, ()), ())
        refuses_place(self, BadBook, (1,), session_step, eight, ("kind", 1))
        refuses_place(self, BadBook, (1,), session_step, eight, ("kind", None))
        self.assertEqual(session_step(((0, (1,) * 7, ()), ()), ("kind", 3))[0][0][1], (1,) * 7 + (3,))
        # What holds_from and free_formula refuse.
        refuses_most(self, TooGreat, 60, session_step, sixty, ("ask", NULL))
        refuses_place(self, BadSaying, (1,), session_step, sixty, ("ask", (1, ())))
        refuses_most(self, TooGreat, 6, session_step, (SEVEN, ()), ("ask", NULL))
        refuses_most(self, TooGreat, 6, session_step, (SEVEN, ()), ("free",))
        refuses_most(self, TooGreat, 60, session_step, (full_book((3,) * 6), ()), ("ask", (3, ((1, 0, (0, 1, 2)),))))
        self.assertEqual(session_step((full_book((3,) * 6), ()), ("free",))[1], free_formula(full_book((3,) * 6)))
        # What is said or unsaid needs no closed list.
        self.assertEqual(session_step((SEVEN, ()), ("unsay", 0)), ((EMPTY, (SEVEN,)), None))
        self.assertEqual(session_step((SEVEN, ()), ("say", SEVEN[2][0]))[0][0][2], SEVEN[2] * 2)

    def test_bounds_of_the_past(self):
        full = (SUMS, (EMPTY,) * 200)
        for deed in (("say", NULL), ("unsay", 0), ("kind", 2)):
            refuses_most(self, TooGreat, 200, session_step, full, deed)
            state, _ = session_step((SUMS, (EMPTY,) * 199), deed)
            self.assertEqual(state[1], (EMPTY,) * 199 + (SUMS,))
            refuses_most(self, TooGreat, 200, session_step, state, ("kind", 2))
        # Last: what is wrong with the deed comes ahead.
        refuses_place(self, BadBook, (2, 1), session_step, full, ("say", None))
        refuses_place(self, BadBook, (1, 1), session_step, full, ("kind", 4))
        refuses_value(self, BadParameter, 1, session_step, full, ("unsay", 1))
        refuses_place(self, BadDeed, (), session_step, full, ("say",))
        self.assertEqual(session_step(full, ("ask", NULL)), (full, 3))
        self.assertEqual(session_step(full, ("free",))[0], full)
        self.assertEqual(session_step(full, ("undo",)), ((EMPTY, (EMPTY,) * 199), None))


class Played(unittest.TestCase):
    def test_ordinary(self):
        self.assertEqual(played(0, (1,), ()), (START, ()))
        self.assertEqual(played(field=0, kinds=(1,), deeds=(("say", PLUS), ("ask", NULL), ("undo",), ("ask", NULL))),
                         (START, (None, 3, None, None)))
        state, answers = played(0, (1,), (("say", PLUS), ("kind", 2), ("unsay", 0), ("free",), ("undo",), ("ask", PLUS)))
        self.assertEqual(state, ((0, (1, 2), (PLUS,)), (EMPTY, SUMS)))
        self.assertEqual(answers, (None, None, None, ((), (0, 1, 1, 0)), None, 2))

    def test_step_by_step(self):
        for _, field, kinds, deeds, states, answers in some_sessions(401, 60):
            found = played(field, kinds, tuple(deeds))
            self.assertEqual(found, (states[-1], tuple(answers)))
            self.assertEqual(played(field, kinds, tuple(deeds)), found)
            state = begun(field, kinds)
            told = []
            for deed in deeds:
                state, answer = session_step(state, deed)
                told.append(answer)
            self.assertEqual((state, tuple(told)), found)

    def test_what_is_asked_leaves_no_trace(self):
        for _, field, kinds, deeds, states, answers in some_sessions(402, 60):
            left = tuple(deed for deed in deeds if deed[0] not in ("ask", "free"))
            self.assertEqual(played(field, kinds, left)[0], states[-1])
            for deed, state, answer in zip(deeds, states, answers):
                if deed[0] == "ask":
                    self.assertEqual(answer, holds_from(state[0], deed[1]))
                if deed[0] == "free":
                    self.assertEqual(answer, free_formula(state[0]))

    def test_deeds_taken_back(self):
        for rnd, field, kinds, deeds, states, _ in some_sessions(403, 60):
            done = [("say", plain.some_saying(field, kinds, rnd, (1, 2, 3))), ("kind", 2), ("say", plain.some_saying(
                field, kinds, rnd, (1, 2, 3)))]
            self.assertEqual(played(field, kinds, tuple(deeds + done + [("undo",)] * 3))[0], states[-1])

    def test_the_first_one_that_is_refused(self):
        good = ("say", PLUS)
        for at in range(4):
            deeds = [good] * 4
            deeds[at] = ("unsay", 9)
            refuses_value(self, BadParameter, 9, played, 0, (1,), tuple(deeds + [None]))
            deeds[at] = None
            refuses_place(self, BadDeed, (), played, 0, (1,), tuple(deeds + [("unsay", 9)]))
            deeds[at] = ("say", None)
            refuses_place(self, BadBook, (2, at), played, 0, (1,), tuple(deeds))
        refusal(self, NoRow, played, 0, (1,), (good, ("undo",), ("undo",)))
        refuses_most(self, TooGreat, 6, played, 0, (1,), (("say", SEVEN[2][0]), ("free",)))
        many = (good, ("unsay", 0)) * 100
        self.assertEqual(len(played(0, (1,), many)[0][1]), 200)
        refuses_most(self, TooGreat, 200, played, 0, (1,), many + (good,))
        self.assertEqual(len(played(0, (1,), many + (("undo",), ("kind", 1)))[0][1]), 200)

    def test_wrong_parameters(self):
        for deeds in ODD + ([("free",)], "free", TupleChild(), TupleChild((("free",),)), 0):
            refuses_value(self, BadParameter, deeds, played, 0, (1,), deeds)
        first_refused(self, played, (0, (1,), ()), {0: Placed((BadBook, 4, (0,))), 1: Placed((BadBook, (4,), (1, 0))), 2: []})

    def test_refused_deeds_change_nothing(self):
        state = (SUMS, (EMPTY,))
        for deed in (("say", None), ("unsay", 5), ("kind", 9), ("ask", None), (), None):
            refusal_told = False
            try:
                session_step(state, deed)
            except RisingError:
                refusal_told = True
            self.assertTrue(refusal_told)
            self.assertEqual(state, (SUMS, (EMPTY,)))


if __name__ == "__main__":
    unittest.main()
