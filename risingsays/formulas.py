"""Formulas: some numbers one by one, then a polynomial for all greater numbers of places."""

from math import comb

from risingsays.checks import is_integer, is_tuple, is_within
from risingsays.errors import BadParameter
from risingsays.gaps import counts, joined_gaps, need_rows_of

MOST_VALUES = 400
COEFS = 4
MOST_TOLD = 10 ** 30


def formula_of(rows, arity):
    """Return the formula by which the rows reach sets of so many places."""
    need_rows_of(rows, arity)
    if len(rows) == 0:
        return ((), (0,) * COEFS)
    # From the sum of the joined row on the numbers are those of a polynomial.
    start = sum(joined_gaps(rows))
    values = counts(rows, arity, start + COEFS)
    return shortened(values[:start], coefs_through(values[start:], start))


def value_at(formula, many):
    """Return what the formula tells for a number of places."""
    need_formula(formula)
    if not is_within(many, 0, MOST_TOLD):
        raise BadParameter(many)
    return told_at(formula, many)


def formula_plus(one, other):
    """Return the formula of the sums."""
    need_formula(one)
    need_formula(other)
    return mixed(one, other, 1)


def formula_minus(one, other):
    """Return the formula of the differences."""
    need_formula(one)
    need_formula(other)
    return mixed(one, other, -1)


def equal_from(one, other):
    """Return the least number from which on both tell the same, None if there is none."""
    need_formula(one)
    need_formula(other)
    values, coefs = mixed(one, other, -1)
    if coefs != (0,) * COEFS:
        return None
    # The last one of the values is not 0, and all behind them is.
    return len(values)


def is_formula(value):
    """Tell whether a value is a FORMULA."""
    if not is_tuple(value, 2, 2):
        return False
    values, coefs = value
    if not is_tuple(values, 0, MOST_VALUES) or not is_tuple(coefs, COEFS, COEFS):
        return False
    if not all([is_integer(number) for number in values + coefs]):
        return False
    return len(values) == 0 or values[-1] != sum_at(coefs, len(values) - 1)


def need_formula(formula):
    """Refuse what is no FORMULA."""
    if not is_formula(formula):
        raise BadParameter(formula)


def sum_at(coefs, many):
    """Return the sum of the coefs, each times how many sets of as many places there are."""
    return sum([coef * comb(many, at) for at, coef in enumerate(coefs)])


def told_at(formula, many):
    """Return what a formula that has been checked tells."""
    values, coefs = formula
    if many < len(values):
        return values[many]
    return sum_at(coefs, many)


def shortened(values, coefs):
    """Return the formula with as few values as may be."""
    count = len(values)
    while count > 0 and values[count - 1] == sum_at(coefs, count - 1):
        count -= 1
    return (tuple(values[:count]), coefs)


def mixed(one, other, factor):
    """Return the formula of one and of factor times another one."""
    coefs = tuple([mine + factor * yours for mine, yours in zip(one[1], other[1])])
    length = max(len(one[0]), len(other[0]))
    values = [told_at(one, many) + factor * told_at(other, many) for many in range(length)]
    return shortened(values, coefs)


def coefs_through(values, start):
    """Return the coefs of the polynomial of degree at most 3 with these four values from the start on."""
    steps = differences(values)
    # The differences at a number tell those at the one ahead, the highest one being the same everywhere.
    for _ in range(start):
        for at in range(COEFS - 2, -1, -1):
            steps[at] -= steps[at + 1]
    return tuple(steps)


def differences(values):
    """Return the first one of the values, of their differences, of the differences of these, and so on."""
    left = list(values)
    steps = []
    while len(left) > 0:
        steps.append(left[0])
        left = [left[at + 1] - left[at] for at in range(len(left) - 1)]
    return steps
