"""Sessions: a book that is written by deeds and asked, with a past that can be taken back."""

from risingsays.checks import is_tuple, is_within
from risingsays.errors import BadDeed, BadParameter, NoRow, TooGreat
from risingsays.following import holds_from
from risingsays.free import free_formula
from risingsays.sayings import need_book, wrong_in_book

MOST_PAST = 200

# How many things a deed has, by its word.
LENGTHS = {"say": 2, "unsay": 2, "kind": 2, "ask": 2, "free": 1, "undo": 1}


def begun(field, kinds):
    """Return the state of a book without sayings in which nothing was done."""
    return (need_book((field, kinds, ())), ())


def need_state(state):
    """Return a state, refuse anything else."""
    if not is_tuple(state, 2, 2):
        raise BadDeed(())
    book, past = state
    need_book(book)
    if not is_tuple(past, 0, MOST_PAST):
        raise BadDeed((1,))
    for at, older in enumerate(past):
        if wrong_in_book(older) is not None:
            raise BadDeed((1, at))
    return state


def session_step(state, deed):
    """Return the state behind the deed, and its answer."""
    need_state(state)
    return done(state, deed)


def played(field, kinds, deeds):
    """Return the state behind all deeds from the beginning on, and their answers."""
    state = begun(field, kinds)
    if type(deeds) is not tuple:
        raise BadParameter(deeds)
    answers = []
    for deed in deeds:
        state, answer = done(state, deed)
        answers.append(answer)
    return (state, tuple(answers))


def done(state, deed):
    """Return the state behind the deed, and its answer; the state has been checked."""
    need_deed(deed)
    book, past = state
    word = deed[0]
    if word == "ask":
        return (state, holds_from(book, deed[1]))
    if word == "free":
        return (state, free_formula(book))
    if word == "undo":
        if len(past) == 0:
            raise NoRow()
        return ((past[-1], past[:-1]), None)
    changed = changed_book(book, word, deed[1])
    if len(past) == MOST_PAST:
        raise TooGreat(MOST_PAST)
    return ((changed, past + (book,)), None)


def need_deed(deed):
    """Refuse what has no word of a deed, or not as many things behind it as it takes."""
    if type(deed) is not tuple or len(deed) == 0 or type(deed[0]) is not str:
        raise BadDeed(())
    if LENGTHS.get(deed[0]) != len(deed):
        raise BadDeed(())


def changed_book(book, word, thing):
    """Return the book with a saying or a kind more, or without the saying with a number."""
    field, kinds, sayings = book
    if word == "say":
        return need_book((field, kinds, sayings + (thing,)))
    if word == "kind":
        return need_book((field, kinds + (thing,), sayings))
    if not is_within(thing, 0, len(sayings) - 1):
        raise BadParameter(thing)
    return (field, kinds, sayings[:thing] + sayings[thing + 1:])
