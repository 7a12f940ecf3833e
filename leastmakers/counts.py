"""Counting the numbers that a table tells."""

from math import gcd

from leastmakers.tables import least


def below(table, number):
    """How many numbers less than this one are told."""
    head, turn = table
    if number <= len(head):
        return head[:number].count("1")
    rounds, rest = divmod(number - len(head), len(turn))
    return head.count("1") + rounds * turn.count("1") + turn[:rest].count("1")


def kth(table, place):
    """The told number with so many told numbers less than it; None if there is none."""
    head, turn = table
    in_head = head.count("1")
    if place < in_head:
        return _told_places(head)[place]
    in_turn = turn.count("1")
    if in_turn == 0:
        return None
    rounds, rest = divmod(place - in_head, in_turn)
    return len(head) + rounds * len(turn) + _told_places(turn)[rest]


def _told_places(row):
    return [place for place, sign in enumerate(row) if sign == "1"]


def next_from(table, number):
    """The least told number that is not less than this one; None if there is none."""
    return kth(table, below(table, number))


def last(table):
    """The greatest told number; None if there is none, or no greatest one."""
    head, turn = least(table)
    if "1" in turn or head == "":
        return None
    # The head of a least table ends with another sign than its turn.
    return len(head) - 1


def is_endless(table):
    """Whether infinitely many numbers are told."""
    return "1" in table[1]


def share(table):
    """How many of the signs of the least turn are "1", by its length, in lowest terms."""
    turn = least(table)[1]
    told = turn.count("1")
    divisor = gcd(told, len(turn))
    return told // divisor, len(turn) // divisor


def widest(table):
    """The greatest difference of neighbouring told numbers and the first lower one with it.

    None if fewer than two numbers are told.
    """
    head, turn = table
    # Behind the first turn each pair of neighbours has been a turn earlier.
    told = _told_places(head + turn + turn)
    best = None
    for low, high in zip(told, told[1:]):
        if best is None or high - low > best[0]:
            best = (high - low, low)
    return best
