"""Papers that show what a purse pays, and whether a table is one that coins pay."""

from leastmakers.coins import check_free, leasts, pay, pay_holds
from leastmakers.common import bits_of, has_bit, is_number, is_pair
from leastmakers.counts import next_from
from leastmakers.tables import has, least, signs


def purse_paper(table):
    """A paper that tells the own coins of a closed table, or why the table is not closed."""
    if not has(table, 0):
        return ("nought",)
    pair = _open_pair(table)
    if pair is not None:
        return ("sum",) + pair
    return "coins", _own_coins(table)


def purse_holds(table, value):
    """Whether value is a purse paper on the table."""
    if not isinstance(value, tuple):
        return False
    if value == ("nought",):
        return not has(table, 0)
    if len(value) == 2 and value[0] == "coins":
        return _are_own_coins(table, value[1])
    if len(value) == 3 and value[0] == "sum":
        return _is_open_pair(table, value[1], value[2])
    return False


def _open_pair(table):
    """The first two told numbers, ascending, whose sum is not told; None if there are none."""
    head, turn = least(table)
    # Told numbers from there on are as those a turn earlier, in each of their sums.
    many = len(head) + len(turn)
    told = bits_of(signs(table, many))
    untold = bits_of(signs(table, 2 * many)) ^ ((1 << (2 * many)) - 1)
    for number in range(many):
        if has_bit(told, number):
            wrong = (told << number) & untold
            if wrong != 0:
                return number, _lowest_bit(wrong) - number
    return None


def _lowest_bit(bits):
    return (bits & -bits).bit_length() - 1


def _is_open_pair(table, low, high):
    if not is_number(low) or not is_number(high) or low > high:
        return False
    return has(table, low) and has(table, high) and not has(table, low + high)


def _own_coins(table):
    """The told numbers from 1 on of a closed table that are no sums of two such numbers."""
    first = next_from(table, 1)
    if first is None:
        return ()
    # The first one is some turns: a number behind head and it is it and a told number.
    many = len(least(table)[0]) + first + 1
    told = bits_of("0" + signs(table, many)[1:])
    sums = 0
    coins = []
    for number in range(first, many):
        if has_bit(told, number) and not has_bit(sums, number):
            coins.append(number)
            sums = sums | (told << number)
    return tuple(coins)


def _are_own_coins(table, value):
    if not isinstance(value, tuple) or not all([is_number(coin) for coin in value]):
        return False
    return has(table, 0) and _open_pair(table) is None and value == _own_coins(table)


def coin_paper(purse, amount):
    """A paper that tells how the amount is paid, or shows that it is not."""
    check_free(purse)
    counts = pay(purse, amount)
    if counts is not None:
        return "paid", counts
    free, bounded = purse
    return "short", tuple([leasts((free, bounded[:many])) for many in range(len(bounded) + 1)])


def coin_holds(purse, amount, value):
    """Whether value is a coin paper on the amount."""
    check_free(purse)
    if not is_pair(value):
        return False
    word, thing = value
    if word == "paid":
        return pay_holds(purse, amount, thing)
    return word == "short" and _are_rows(purse, thing) and _is_short(purse, amount, thing)


def _are_rows(purse, value):
    """Whether value is as many rows as a paper has, of a number or None for each remainder."""
    free, bounded = purse
    if not isinstance(value, tuple) or len(value) != len(bounded) + 1:
        return False
    return all([_is_row(row, free[0]) for row in value])


def _is_row(value, many):
    if not isinstance(value, tuple) or len(value) != many:
        return False
    return all([item is None or is_number(item) for item in value])


def _is_short(purse, amount, rows):
    free, bounded = purse
    first = rows[0]
    if first[0] != 0 or not all([_carries(first, first, coin) for coin in free]):
        return False
    for (coin, times), ahead, row in zip(bounded, rows, rows[1:]):
        if not all([_carries(ahead, row, many * coin) for many in range(times + 1)]):
            return False
    item = rows[-1][amount % free[0]]
    return item is None or item > amount


def _carries(ahead, row, more):
    """Whether for each number ahead the row has one at most so much more, where this leads."""
    for rest, item in enumerate(ahead):
        if item is not None:
            other = row[(rest + more) % len(row)]
            if other is None or other > item + more:
                return False
    return True
