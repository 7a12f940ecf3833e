"""What several parts share: checks of values, rows of signs as bits, sizes of tables."""

from math import gcd, lcm

from leastmakers.bounds import MAX_HEAD, MAX_TURN
from leastmakers.errors import TooGreat


def is_pair(value):
    """Whether value is a tuple of two items."""
    return isinstance(value, tuple) and len(value) == 2


def is_whole(value, low, high):
    """Whether value is an integer, no truth, from low to high."""
    return isinstance(value, int) and not isinstance(value, bool) and low <= value <= high


def is_number(value):
    """Whether value is an integer, no truth, from 0 on."""
    return isinstance(value, int) and not isinstance(value, bool) and value >= 0


def is_triple(value):
    """Whether value is a tuple of three items."""
    return isinstance(value, tuple) and len(value) == 3


def is_ascending(items):
    """Whether each item is greater than the one ahead of it."""
    return all([low < high for low, high in zip(items, items[1:])])


def greatest_divisor(numbers):
    """The greatest common divisor of all the numbers, 0 if there are none but 0."""
    divisor = 0
    for number in numbers:
        divisor = gcd(divisor, number)
    return divisor


def least_multiple(numbers):
    """The least common multiple of all the numbers, 1 if there are none."""
    multiple = 1
    for number in numbers:
        multiple = lcm(multiple, number)
    return multiple


def check_size(head, turn):
    """Raise TooGreat if a head or a turn of this length is longer than a table's."""
    if head > MAX_HEAD or turn > MAX_TURN:
        raise TooGreat()


def shared_size(one, other):
    """The lengths of head and turn with which both least tables go; TooGreat if too long."""
    head = max(len(one[0]), len(other[0]))
    turn = lcm(len(one[1]), len(other[1]))
    check_size(head, turn)
    return head, turn


def bits_of(row):
    """The integer whose bit n is the sign at place n of the row."""
    # The nought in front gives an empty row a value, too.
    return int("0" + row[::-1], 2)


def has_bit(bits, place):
    """Whether the bit at this place is 1."""
    return (bits >> place) & 1 == 1


def row_of(bits, many):
    """The first so many signs of the row with these bits."""
    figures = f"{bits:b}"
    return figures[::-1].ljust(many, "0")[:many]
