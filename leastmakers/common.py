"""What several parts share: checks of values, figures, rows of signs as bits, table sizes."""

from math import gcd, lcm

from leastmakers.bounds import MAX_HEAD, MAX_TURN
from leastmakers.errors import TooGreat


def is_pair(value):
    """Whether value is a tuple of two items."""
    return isinstance(value, tuple) and len(value) == 2


def is_whole(value, low, high):
    """Whether value is an integer, no truth, from low to high."""
    return isinstance(value, int) and not isinstance(value, bool) and low <= value <= high


def is_number(value):
    """Whether value is an integer, no truth, from 0 on."""
    return isinstance(value, int) and not isinstance(value, bool) and value >= 0


def is_triple(value):
    """Whether value is a tuple of three items."""
    return isinstance(value, tuple) and len(value) == 3


def are_below(modulus, value):
    """Whether value is a tuple of numbers below the modulus."""
    return isinstance(value, tuple) and all([is_whole(item, 0, modulus - 1) for item in value])


def is_name(value):
    """Whether value is a string of 1 to 8 letters from a to z."""
    if not isinstance(value, str) or not 1 <= len(value) <= 8:
        return False
    return value.isascii() and value.isalpha() and value.islower()


def is_written(word, most):
    """Whether the word is a number from 0 on as it is written, of at most so many figures."""
    if not word.isascii() or not word.isdigit() or len(word) > most:
        return False
    return word == "0" or word[0] != "0"


def is_ascending(items):
    """Whether each item is greater than the one ahead of it."""
    return all([low < high for low, high in zip(items, items[1:])])


def greatest_divisor(numbers):
    """The greatest common divisor of all the numbers, 0 if there are none but 0."""
    divisor = 0
    for number in numbers:
        divisor = gcd(divisor, number)
    return divisor


def least_multiple(numbers):
    """The least common multiple of all the numbers, 1 if there are none."""
    multiple = 1
    for number in numbers:
        multiple = lcm(multiple, number)
    return multiple


def power(base, exponent):
    """The base taken as a factor so many times."""
    product = 1
    for _ in range(exponent):
        product = product * base
    return product


def figures(code, base, many):
    """The so many last figures of the code in this base."""
    found = []
    for _ in range(many):
        code, figure = divmod(code, base)
        found.append(figure)
    return tuple(found[::-1])


def sum_ahead(modulus, factors, ahead):
    """The sum of the numbers ahead, the nearest one times the first factor, by the modulus."""
    return sum([factor * number for factor, number in zip(factors, ahead[::-1])]) % modulus


def check_size(head, turn):
    """Raise TooGreat if a head or a turn of this length is longer than a table's."""
    if head > MAX_HEAD or turn > MAX_TURN:
        raise TooGreat()


def shared_size(one, other):
    """The lengths of head and turn with which both least tables go; TooGreat if too long."""
    head = max(len(one[0]), len(other[0]))
    turn = lcm(len(one[1]), len(other[1]))
    check_size(head, turn)
    return head, turn


def bits_of(row):
    """The integer whose bit n is the sign at place n of the row."""
    # The nought in front gives an empty row a value, too.
    return int("0" + row[::-1], 2)


def has_bit(bits, place):
    """Whether the bit at this place is 1."""
    return (bits >> place) & 1 == 1


def row_of(bits, many):
    """The first so many signs of the row with these bits."""
    written = f"{bits:b}"
    return written[::-1].ljust(many, "0")[:many]
