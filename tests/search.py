"""The search of [22] done over again, word for word, with the slow helps of the other tests."""

from tests import plain
from tests.test_bringing import lead_of, plain_overlaps, plainly_brought, plainly_worked_on


def plain_states(book, most=6, last=12):
    """All states of the search, the first one first; None behind them if a member has too many places."""
    field, kinds, _ = book
    level, members, left = 0, (), things(book, 0, ())
    yield (level, members, left)
    while True:
        if left:
            terms = plainly_brought((field, kinds, members), level, left[0])
            left = left[1:]
            if terms:
                if level > most:
                    yield None
                    return
                members += ((level, terms),)
        else:
            members = finished(field, kinds, level, members)
            if level == last:
                yield (level, members, ())
                return
            level += 1
            left = things(book, level, members)
        yield (level, members, left)


def things(book, level, members):
    """What a level begins with: the sayings of its width, then the overlaps on as many places."""
    field, kinds, sayings = book
    told = [plain.whole_terms(field, plain.row_of(terms)) for width, terms in sayings if width == level]
    more = [terms for many, terms in plain_overlaps((field, kinds, members)) if many == level and terms != ()]
    return tuple(told + more)


def finished(field, kinds, level, members):
    ahead = tuple(member for member in members if member[0] < level)
    done = []
    for member in members[len(ahead):]:
        others = tuple(other for other in members if other != member)
        row = plain.row_of(member[1])
        lead = lead_of(member)
        rest = {unknown: coef for unknown, coef in row.items() if unknown != lead}
        rest = plainly_worked_on((field, kinds, others), level, rest)
        done.append((level, plain.whole_terms(field, {**rest, lead: row[lead]})))
    return ahead + tuple(sorted(done, key=lambda member: plain.UNKNOWN_KEY(lead_of(member))))
