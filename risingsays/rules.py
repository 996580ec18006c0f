"""Kinds by rules: new kinds whose numbers are told by sums of old ones."""

from risingsays.checks import MOST_ARITY, MOST_KINDS, is_tuple, is_within
from risingsays.errors import BadParameter, BadTerms
from risingsays.hiding import left_of_seen
from risingsays.numbers import negative
from risingsays.sayings import all_unknowns, carry, need_book, need_few_unknowns, wrong_in_terms
from risingsays.tables import need_table, numbers_at, worth_with


def rule_book(book, rules):
    """Return the book of the new kinds with the closed list of all that holds of them."""
    field, kinds, sayings = need_book(book)
    need_rules(book, rules)
    told = tuple([rule_saying(field, len(kinds) + at, rule) for at, rule in enumerate(rules)])
    return left_of_seen((field, kinds + arities_of(rules), sayings + told), tuple(range(len(kinds))))


def by_rules(book, rules, many, table):
    """Return the table of the new kinds that a table of the book tells."""
    field, _, _ = need_book(book)
    need_rules(book, rules)
    need_table(book, many, table)
    arities = arities_of(rules)
    need_few_unknowns(arities, many)
    numbers = numbers_at(book, many, table)
    new = all_unknowns(arities, many)
    return tuple([worth_with(field, numbers, carry(rules[kind][1], places)) for kind, places in new])


def need_rules(book, rules):
    """Refuse what is no tuple of rules of a checked book."""
    if not is_tuple(rules, 1, MOST_KINDS):
        raise BadParameter(rules)
    for at, rule in enumerate(rules):
        if not is_rule(book, rule):
            raise BadTerms((at,))


def is_rule(book, value):
    """Tell whether a value is a rule: an arity, and terms of the book's kinds on so many places."""
    if not is_tuple(value, 2, 2):
        return False
    arity, terms = value
    return is_within(arity, 0, MOST_ARITY) and wrong_in_terms(book[0], book[1], arity, terms) is None


def arities_of(rules):
    """Return the arities of the new kinds."""
    return tuple([arity for arity, _ in rules])


def rule_saying(field, kind, rule):
    """Return the saying that the new kind's number is the sum of the rule's terms."""
    arity, terms = rule
    # The new unknown has all places and the greater kind: so it stands first.
    told = [(1, kind, tuple(range(arity)))]
    for coef, old, places in terms:
        told.append((negative(field, (coef, 1))[0], old, places))
    return (arity, tuple(told))
