"""Tables: pairs of a head and a turn, which tell round sets of numbers."""

from leastmakers.bounds import MAX_HEAD, MAX_TURN
from leastmakers.common import is_pair, shared_size

EMPTY = ("", "0")
ALL = ("", "1")


def table_error(value):
    """The first word that tells why value is no table; None for a table."""
    if not is_pair(value):
        return "pair"
    head, turn = value
    if not _is_row(head):
        return "head"
    if not _is_row(turn) or turn == "":
        return "turn"
    if len(head) > MAX_HEAD or len(turn) > MAX_TURN:
        return "long"
    return None


def _is_row(value):
    return isinstance(value, str) and value.count("0") + value.count("1") == len(value)


def least(table):
    """The least table of the set that the table tells."""
    head, turn = table
    turn = _shortest_turn(turn)
    alike = _alike_signs(head, turn)
    # The turn takes in the end of the head, so it begins so many signs earlier.
    cut = len(turn) - alike % len(turn)
    return head[:len(head) - alike], turn[cut:] + turn[:cut]


def table_of(row, head):
    """The least table of a row of signs: a head of this length, the rest is a turn."""
    return least((row[:head], row[head:]))


def _shortest_turn(turn):
    many = len(turn)
    for size in range(1, many // 2 + 1):
        if many % size == 0 and turn[:size] * (many // size) == turn:
            return turn[:size]
    return turn


def _alike_signs(head, turn):
    """How many of the last signs of the head are as the turn, gone backwards, has them."""
    alike = 0
    while alike < len(head) and head[-1 - alike] == turn[-1 - alike % len(turn)]:
        alike += 1
    return alike


def is_least(table):
    """Whether the table is the least one of its set."""
    return least(table) == table


def has(table, number):
    """Whether the table tells the number."""
    head, turn = table
    if number < len(head):
        return head[number] == "1"
    return turn[(number - len(head)) % len(turn)] == "1"


def signs(table, many):
    """The string of the signs of the first so many numbers."""
    head, turn = table
    # One round more than needed costs less than a case of its own.
    rounds = many // len(turn) + 1
    return (head + turn * rounds)[:many]


def same(one, other):
    """Whether both tables tell the same set."""
    return least(one) == least(other)


def parting(one, other):
    """The least number that just one of both tables tells; None if there is none."""
    # Rows of turns t and u that are alike for t + u signs are alike for ever.
    many = max(len(one[0]), len(other[0])) + len(one[1]) + len(other[1])
    for number, (left, right) in enumerate(zip(signs(one, many), signs(other, many))):
        if left != right:
            return number
    return None


def within(one, other):
    """Whether each number that one tells is told by other."""
    return escape(one, other) is None


def escape(one, other):
    """The least number that one tells and other does not; None if there is none."""
    one, other = least(one), least(other)
    head, turn = shared_size(one, other)
    many = head + turn
    for number, (left, right) in enumerate(zip(signs(one, many), signs(other, many))):
        if left == "1" and right == "0":
            return number
    return None


def just(numbers):
    """The table of these numbers, which are ascending."""
    row = ["0"] * (max([-1] + list(numbers)) + 1)
    for number in numbers:
        row[number] = "1"
    return "".join(row), "0"


def each_step(first, step):
    """The table of first, first + step, first + 2 * step and so on."""
    return least(("0" * first, "1" + "0" * (step - 1)))
