"""Rows in which each number is a told sum of those just ahead of it, by a modulus."""

from leastmakers.common import are_below, figures, is_triple, is_whole, power, sum_ahead
from leastmakers.tables import table_of

_MOST_MODULUS = 9
_MOST_FACTORS = 4
# How many rows of as many numbers as a rule has factors there may be.
_MOST_BEGINS = 5000


def rule_error(value):
    """The first word that tells why value is no rule; None for a rule."""
    if not is_triple(value):
        return "rule"
    modulus, factors, begin = value
    if not is_whole(modulus, 2, _MOST_MODULUS):
        return "modulus"
    if not are_below(modulus, factors) or not 1 <= len(factors) <= _MOST_FACTORS:
        return "factors"
    if power(modulus, len(factors)) > _MOST_BEGINS:
        return "factors"
    if not are_below(modulus, begin) or len(begin) != len(factors):
        return "begin"
    return None


def values(rule, many):
    """The first so many values of the row."""
    modulus, factors, begin = rule
    row = list(begin)
    while len(row) < many:
        row.append(sum_ahead(modulus, factors, row[-len(factors):]))
    return tuple(row[:many])


def value_at(rule, number):
    """The value of the row at this number."""
    head, turn = round_of(rule)
    if number >= head:
        number = head + (number - head) % turn
    return values(rule, number + 1)[number]


def round_of(rule):
    """The least lengths (head, turn) with which the row comes round."""
    modulus, factors, ahead = rule
    seen = {}
    # As many values as there are factors tell all that follow.
    while ahead not in seen:
        seen[ahead] = len(seen)
        ahead = ahead[1:] + (sum_ahead(modulus, factors, ahead),)
    return seen[ahead], len(seen) - seen[ahead]


def reads(rule, value):
    """The table of the numbers at which the row has this value."""
    head, turn = round_of(rule)
    row = values(rule, head + turn)
    return table_of("".join(["1" if found == value else "0" for found in row]), head)


def longest_row(prime, order):
    """The greatest length of a turn of a row of so many factors, and a rule with it."""
    most = power(prime, order) - 1
    begin = (0,) * (order - 1) + (1,)
    code = 1
    rule = (prime, figures(code, prime, order), begin)
    while round_of(rule) != (0, most):
        code += 1
        rule = (prime, figures(code, prime, order), begin)
    return most, rule
