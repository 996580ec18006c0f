"""Gaps: how many places are ahead of, between and behind some places."""

from risingsays.checks import MOST_ARITY, MOST_PLACES, is_rising, is_tuple, is_within, need_many
from risingsays.errors import BadParameter

MOST_ROWS = 60
MOST_GAP_OF_ROWS = 12
MOST_COUNTED = 20


def gaps_of(many, places):
    """Return the gaps of some places among so many ones."""
    need_many(many)
    if not is_rising(places, many) or len(places) > MOST_ARITY:
        raise BadParameter(places)
    return gaps_between(many, places)


def places_of(gaps):
    """Return how many places there are, and which ones have these gaps."""
    if not is_gaps(gaps, MOST_PLACES) or sum(gaps) + len(gaps) - 1 > MOST_PLACES:
        raise BadParameter(gaps)
    return placed(gaps)


def reaches(gaps, others):
    """Tell whether an unknown with the gaps can be carried to one of its kind with the others."""
    if not is_gaps(gaps, MOST_PLACES):
        raise BadParameter(gaps)
    if not is_gaps(others, MOST_PLACES) or len(others) != len(gaps):
        raise BadParameter(others)
    return are_reached(gaps, others)


def least_rows(rows):
    """Return the rows that no other one reaches, each once, ascending."""
    need_rows(rows)
    return tuple([row for row in sorted(set(rows)) if is_least(rows, row)])


def joined(rows):
    """Return the gaps whose things are each the greatest of those of the rows."""
    need_rows(rows)
    if len(rows) == 0:
        raise BadParameter(rows)
    return joined_gaps(rows)


def counted(rows, arity, many):
    """Return how many sets of places have gaps that some row reaches."""
    need_rows_of(rows, arity)
    if not is_within(many, 0, MOST_COUNTED):
        raise BadParameter(many)
    return counts(rows, arity, many + 1)[many]


def is_gaps(value, most):
    """Tell whether a value is GAPS none of which is above the most."""
    return is_tuple(value, 1, MOST_ARITY + 1) and all([is_within(gap, 0, most) for gap in value])


def is_rows(value):
    """Tell whether a value is ROWS."""
    if not is_tuple(value, 0, MOST_ROWS):
        return False
    if not all([is_gaps(row, MOST_GAP_OF_ROWS) for row in value]):
        return False
    return all([len(row) == len(value[0]) for row in value])


def need_rows(rows):
    """Refuse what is no ROWS."""
    if not is_rows(rows):
        raise BadParameter(rows)


def need_rows_of(rows, arity):
    """Refuse what is no ROWS, and no arity of theirs."""
    need_rows(rows)
    if not is_within(arity, 0, MOST_ARITY) or not all([len(row) == arity + 1 for row in rows]):
        raise BadParameter(arity)


def gaps_between(many, places):
    """Return the gaps of places that have been checked."""
    edges = [-1, *places, many]
    return tuple([edges[at + 1] - edges[at] - 1 for at in range(len(edges) - 1)])


def placed(gaps):
    """Return how many places there are, and which ones have gaps that have been checked."""
    places = []
    at = gaps[0]
    for gap in gaps[1:]:
        places.append(at)
        at += gap + 1
    return (at, tuple(places))


def are_reached(gaps, others):
    """Tell whether each gap is at most the other one at its place."""
    return all([gap <= other for gap, other in zip(gaps, others)])


def joined_gaps(rows):
    """Return the greatest gap of each place of one or more rows."""
    return tuple([max([row[at] for row in rows]) for at in range(len(rows[0]))])


def is_least(rows, row):
    """Tell whether no other unlike one of the rows reaches the row."""
    return all([other == row or not are_reached(other, row) for other in rows])


def counts(rows, arity, length):
    """Return how many sets of n places are reached by rows that have been checked, for each n below the length."""
    if len(rows) == 0:
        return [0] * length
    if arity == 0:
        least = min([row[0] for row in rows])
        return [1 if n >= least else 0 for n in range(length)]
    found = [0] * length
    greatest = max([row[-1] for row in rows])
    for behind in range(greatest):
        others = counts_ahead(rows, behind, arity, length)
        for n in range(behind + 1, length):
            found[n] += others[n - 1 - behind]
    # With the greatest last gap or more places behind, all rows count: one sum over all of these.
    others = counts_ahead(rows, greatest, arity, length)
    total = 0
    for n in range(greatest + 1, length):
        total += others[n - 1 - greatest]
        found[n] += total
    return found


def counts_ahead(rows, behind, arity, length):
    """Return the counts of the places ahead of the last one, with so many places behind that one."""
    return counts([row[:-1] for row in rows if row[-1] <= behind], arity - 1, length)
