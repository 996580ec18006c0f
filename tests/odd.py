"""Values of odd kinds, and small helps that the tests share."""


class Spiteful:
    """A value that breaks whoever compares, measures, hashes or writes it."""

    def _refuse(self, *rest):
        raise RuntimeError("this value is not to be touched")

    __eq__ = __ne__ = __lt__ = __le__ = __gt__ = __ge__ = _refuse
    __hash__ = __len__ = __iter__ = __bool__ = __repr__ = __str__ = _refuse
    __getitem__ = __contains__ = __add__ = __mod__ = __index__ = __int__ = _refuse


class IntChild(int):
    """An integer of a kind of its own."""


class TupleChild(tuple):
    """A tuple of a kind of its own."""


# None of these is an integer or a tuple.
ODD = (
    None, True, False, 0.0, 1.0, 2.5, float("nan"), 1j, "", "0", "ab", b"", b"\x00",
    [], [0], [1, 2], {}, {0: 1}, set(), {0}, frozenset((1,)), range(2), object(), int, tuple,
    len, Spiteful(), Ellipsis, NotImplemented,
)


def refusal(test, error, call, *given):
    """Return the error that a call raises; it is of just this class."""
    try:
        call(*given)
    except error as told:
        test.assertIs(type(told), error)
        return told
    test.fail(f"{error.__name__} expected")


def refuses_value(test, error, value, call, *given):
    """The call raises the error with just this value."""
    test.assertIs(refusal(test, error, call, *given).value, value)


def refuses_place(test, error, place, call, *given):
    """The call raises the error with this place, a tuple of integers."""
    told = refusal(test, error, call, *given).place
    test.assertIs(type(told), tuple)
    test.assertEqual(told, place)


def refuses_most(test, error, most, call, *given):
    """The call raises the error with this most."""
    test.assertEqual(refusal(test, error, call, *given).most, most)


def first_refused(test, call, good, bad):
    """Of wrong parameters the first one is told.

    `good` are right arguments; `bad` maps a number of an argument to a wrong
    value for it that is told as a whole by BadParameter, or to a pair
    (error, value, place) for one that is told by its place.
    """
    for first in sorted(bad):
        for later in [None] + [k for k in sorted(bad) if k > first]:
            given = list(good)
            for at in (first, later):
                if at is not None:
                    wrong = bad[at]
                    given[at] = wrong[1] if isinstance(wrong, Placed) else wrong
            wrong = bad[first]
            if isinstance(wrong, Placed):
                refuses_place(test, wrong[0], wrong[2], call, *given)
            else:
                test.assertIs(refusal(test, bad_parameter(), call, *given).value, wrong)


class Placed(tuple):
    """(error, value, place): a wrong value that is told by its place."""


def bad_parameter():
    """Return the class of errors that tell a value."""
    from risingsays.errors import BadParameter
    return BadParameter
