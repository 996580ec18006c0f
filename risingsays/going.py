"""Tables that go on: what holds of some places of all tables that keep a book on more places."""

from risingsays.bringing import lead_gaps, lead_kind, leads_of, whole_of_numbers, worked_on
from risingsays.checks import MOST_PLACES, is_within
from risingsays.closing import closed_by
from risingsays.errors import BadParameter
from risingsays.gaps import are_reached
from risingsays.sayings import MOST_WIDTH, mirror, need_book, term_rank


def going(book, more):
    """Return the book of what holds of the first places of all tables that keep the book on so many places more."""
    need_book(book)
    need_more(more)
    return gone(closed_by(book, ()), more)


def endless(book):
    """Return the book of what holds of the first places of all tables that keep the book on enough places more."""
    need_book(book)
    return gone(closed_by(book, ()), MOST_WIDTH)


def rest_of(book):
    """Return the least number of places more behind which nothing more is asked."""
    need_book(book)
    closed = closed_by(book, ())
    last = gone(closed, MOST_WIDTH)
    return min([more for more in range(MOST_WIDTH + 1) if gone(closed, more) == last])


def going_back(book, more):
    """Return the same as `going` for places ahead of those that are looked at."""
    need_book(book)
    need_more(more)
    return gone_back(book, more)


def going_both(book, ahead, behind):
    """Return the same for places on both sides of those that are looked at."""
    need_book(book)
    need_more(ahead)
    need_more(behind)
    return gone_back(gone(closed_by(book, ()), behind), ahead)


def need_more(more):
    """Refuse what is no number of places more."""
    if not is_within(more, 0, MOST_PLACES):
        raise BadParameter(more)


def gone(closed, more):
    """Return the book that so many places more make of a closed book."""
    field, kinds, members = closed
    struck = [struck_behind(saying, more) for saying in members]
    left = [saying for saying in struck if not is_reached_by_other(saying, struck)]
    leads = leads_of(left)
    done = [brought_down(field, leads, saying) for saying in left]
    return (field, kinds, tuple(sorted(done, key=lambda saying: (saying[0], term_rank(saying[1][0])))))


def struck_behind(saying, more):
    """Return a saying without the last places that its lead does not have, but at most so many of them."""
    # No term has a place behind the last one of the lead.
    return (saying[0] - min(lead_gaps(saying)[-1], more), saying[1])


def is_reached_by_other(saying, others):
    """Tell whether the lead of another one of some sayings with unlike leads reaches the lead of the saying."""
    gaps = lead_gaps(saying)
    for other in others:
        if other != saying and lead_kind(other) == lead_kind(saying) and are_reached(lead_gaps(other), gaps):
            return True
    return False


def brought_down(field, leads, saying):
    """Return a saying, one of those that the leads are of, with all terms but the lead's brought down by all."""
    width, terms = saying
    coef, kind, places = terms[0]
    # On its own places a lead reaches itself alone: so the saying takes no part in this.
    left, _ = worked_on(field, leads, width, terms[1:])
    left[(kind, places)] = (coef, 1)
    return (width, whole_of_numbers(field, left, ()))


def gone_back(book, more):
    """Return what `going_back` tells of a checked book."""
    found = gone(closed_by(mirrored_book(book), ()), more)
    return closed_by(mirrored_book(found), ())


def mirrored_book(book):
    """Return the book with all its sayings mirrored."""
    field, kinds, sayings = book
    return (field, kinds, tuple([mirror(saying) for saying in sayings]))
