"""Tables made of tables."""

from math import gcd, lcm

from leastmakers.common import bits_of, check_size, row_of, shared_size
from leastmakers.tables import has, least, signs, table_of


def both(one, other):
    """The numbers that both tables tell."""
    left, right, size = _shared_rows(one, other)
    return _table_of_bits(left & right, size)


def either(one, other):
    """The numbers that at least one of both tables tells."""
    left, right, size = _shared_rows(one, other)
    return _table_of_bits(left | right, size)


def but(one, other):
    """The numbers that one tells and other does not."""
    left, right, size = _shared_rows(one, other)
    return _table_of_bits(left & ~right, size)


def _shared_rows(one, other):
    """The bits of both tables, as far as the lengths (head, turn) with which both go."""
    one, other = least(one), least(other)
    size = shared_size(one, other)
    return bits_of(signs(one, sum(size))), bits_of(signs(other, sum(size))), size


def _table_of_bits(bits, size):
    """The least table of the row of these bits, its head and turn being of this size."""
    return table_of(row_of(bits, sum(size)), size[0])


def contrary(table):
    """The numbers that the table does not tell."""
    head, turn = least(table)
    return _turned_over(head), _turned_over(turn)


def _turned_over(row):
    return "".join(["0" if sign == "1" else "1" for sign in row])


def moved(table, by):
    """The numbers n + by of the told numbers n."""
    head, turn = least(table)
    check_size(len(head) + by, len(turn))
    return least(("0" * by + head, turn))


def back(table, by):
    """The numbers n such that n + by is told."""
    head, turn = table
    if by <= len(head):
        return least((head[by:], turn))
    cut = (by - len(head)) % len(turn)
    return least(("", turn[cut:] + turn[:cut]))


def spread(table, times):
    """The numbers times * n of the told numbers n."""
    head, turn = least(table)
    check_size(len(head) * times, len(turn) * times)
    return least((_spaced(head, times), _spaced(turn, times)))


def _spaced(row, times):
    gap = "0" * (times - 1)
    return "".join([sign + gap for sign in row])


def steps(table, first, step):
    """The numbers k such that first + step * k is told."""
    head, turn = least(table)
    many = len(head) + len(turn)
    row = "".join(["1" if has(table, first + step * k) else "0" for k in range(many)])
    return table_of(row, len(head))


def sums(one, other):
    """The numbers a + b with a told by one and b by other."""
    one, other = least(one), least(other)
    turn = lcm(len(one[1]), len(other[1]))
    head = len(one[0]) + len(other[0]) + turn + gcd(len(one[1]), len(other[1]))
    check_size(head, turn)
    added = bits_of(signs(other, head + turn))
    bits = 0
    for number, sign in enumerate(signs(one, head + turn)):
        if sign == "1":
            bits = bits | (added << number)
    return _table_of_bits(bits, (head, turn))


def star(table):
    """The numbers that are sums of told numbers, each taken as often as one likes."""
    table = least(table)
    head, turn = len(table[0]), len(table[1])
    far = (head + 2 * turn) ** 2
    check_size(far, head + turn)
    first = signs(table, head + turn + 1).find("1", 1)
    if first == -1:
        return "1", "0"
    # Far out all multiples of the divisor of the told numbers are sums, so each one is a turn.
    return _table_of_bits(_sums_of_any(table, far + first), (far, first))


def _sums_of_any(table, many):
    """The bits below many of the sums of told numbers, any of them, any times."""
    told = bits_of(signs(table, many))
    bits = 1
    # A bit is settled when its number is come to: each summand but 0 is greater.
    for number in range(many):
        if (bits >> number) & 1:
            bits = bits | (told << number)
    return bits


def picked(one, other):
    """The told numbers of one whose places in their order other tells."""
    one, other = least(one), least(other)
    head, turn = _order_size(one, other)
    row = signs(one, head + turn)
    chosen = signs(other, head + turn)
    ahead = _told_ahead(row)
    found = ["1" if sign == "1" and chosen[k] == "1" else "0" for sign, k in zip(row, ahead)]
    return table_of("".join(found), head)


def counted(one, other):
    """The numbers n such that other tells how many less than n one tells."""
    one, other = least(one), least(other)
    head, turn = _order_size(one, other)
    chosen = signs(other, head + turn)
    found = [chosen[k] for k in _told_ahead(signs(one, head + turn))]
    return table_of("".join(found), head)


def _order_size(one, other):
    head = len(one[0]) + len(one[1]) * (len(other[0]) + 1)
    turn = len(one[1]) * len(other[1])
    check_size(head, turn)
    return head, turn


def _told_ahead(row):
    """For each place of the row how many signs "1" stand ahead of it."""
    ahead = []
    many = 0
    for sign in row:
        ahead.append(many)
        if sign == "1":
            many += 1
    return ahead
