"""Coins: purses of free and of bounded coins, and the numbers that they pay."""

from leastmakers.bounds import MAX_COIN, MAX_COINS, MAX_TIMES
from leastmakers.common import (
    greatest_divisor, has_bit, is_ascending, is_pair, is_whole, row_of)
from leastmakers.counts import is_endless, last, next_from
from leastmakers.errors import NoFree, NoOne
from leastmakers.joins import contrary
from leastmakers.tables import table_of


def purse_error(value):
    """The first word that tells why value is no purse; None for a purse."""
    if not is_pair(value):
        return "pair"
    free, bounded = value
    if not _is_free(free):
        return "free"
    if not _is_bounded(bounded):
        return "bounded"
    coins = sorted(list(free) + [coin for coin, times in bounded])
    if not is_ascending(coins):
        return "twice"
    if not 1 <= len(coins) <= MAX_COINS:
        return "many"
    return None


def _is_free(value):
    if not isinstance(value, tuple):
        return False
    return all([is_whole(coin, 1, MAX_COIN) for coin in value]) and is_ascending(value)


def _is_bounded(value):
    if not isinstance(value, tuple):
        return False
    return all([_is_lot(item) for item in value]) and is_ascending(value)


def _is_lot(value):
    """Whether value is a pair of a coin and times."""
    return is_pair(value) and is_whole(value[0], 1, MAX_COIN) and is_whole(value[1], 1, MAX_TIMES)


def _round(purse):
    """Lengths of a head and of a turn with which the paid numbers come round."""
    free, bounded = purse
    top = sum([coin * times for coin, times in bounded])
    if free == ():
        return top + 1, 1
    divisor = greatest_divisor(free)
    return top + (free[0] - divisor) * (free[-1] - divisor) // divisor, divisor


def _lots(purse, size):
    """The pairs (coin, times) of all coins, each with the times that matter below size."""
    free, bounded = purse
    return [(coin, size // coin) for coin in free] + list(bounded)


def _paid_rows(lots, size):
    """The bits below size of what the first 0, 1, 2 and so on of the lots pay."""
    rows = [1]
    for coin, times in lots:
        rows.append(_with_lot(rows[-1], coin, times) & ((1 << size) - 1))
    return rows


def _with_lot(row, coin, times):
    """The bits of the row more by the coin, taken at most so many times."""
    taken = 0
    while taken < times:
        # Up to taken coins are in the row: as many again, and one, double it.
        more = min(taken + 1, times - taken)
        row = row | (row << (coin * more))
        taken += more
    return row


def paid(purse):
    """The table of the numbers that are paid."""
    head, turn = _round(purse)
    row = _paid_signs(purse, head + turn)
    return table_of(row, head)


def _paid_signs(purse, size):
    return row_of(_paid_rows(_lots(purse, size), size)[-1], size)


def pay(purse, amount):
    """Counts of the coins that pay the amount; None if it is not paid."""
    free = purse[0]
    head = _round(purse)[0]
    small = amount
    if amount >= head:
        if free == ():
            return None
        # Behind the head each further least free coin pays what is greater by it.
        small = head + (amount - head) % free[0]
    counts = _small_counts(_lots(purse, small + 1), small)
    if counts is None:
        return None
    if small < amount:
        counts[0] += (amount - small) // free[0]
    return tuple(counts)


def _small_counts(lots, amount):
    """The list of counts of the lots that pay an amount that is not great; None if none do."""
    rows = _paid_rows(lots, amount + 1)
    if not has_bit(rows[-1], amount):
        return None
    counts = []
    for place in range(len(lots) - 1, -1, -1):
        many = 0
        while not has_bit(rows[place], amount):
            many += 1
            amount -= lots[place][0]
        counts.append(many)
    return counts[::-1]


def pay_holds(purse, amount, value):
    """Whether value is counts of the coins that pay the amount."""
    free, bounded = purse
    if not isinstance(value, tuple) or len(value) != len(free) + len(bounded):
        return False
    # No count of a sum is greater than the sum, as no coin is below 1.
    lots = [(coin, amount) for coin in free] + list(bounded)
    if not all([is_whole(many, 0, times) for many, (coin, times) in zip(value, lots)]):
        return False
    return sum([many * coin for many, (coin, times) in zip(value, lots)]) == amount


def leasts(purse):
    """For each remainder by the least free coin the least paid number with it, or None."""
    check_free(purse)
    free = purse[0]
    row = _paid_signs(purse, _round(purse)[0] + free[0])
    return tuple([_least_of(row, rest, free[0]) for rest in range(free[0])])


def check_free(purse):
    """Raise NoFree if there are no free coins."""
    if purse[0] == ():
        raise NoFree()


def _least_of(row, rest, step):
    rounds = row[rest::step].find("1")
    return None if rounds == -1 else rest + rounds * step


def last_gap(purse):
    """The greatest number that is not paid; None if there is none, or no greatest one."""
    return last(contrary(paid(purse)))


def gaps(purse):
    """How many numbers are not paid; None if there are infinitely many."""
    unpaid = contrary(paid(purse))
    return None if is_endless(unpaid) else unpaid[0].count("1")


def greatest_gap(most):
    """The greatest last gap of free coins, none above most; None if there is none."""
    # Coins 1 leave no gap, and 2 alone leaves endless ones.
    return None if most < 3 else most * most - 3 * most + 1


def gap_purse(most):
    """A purse of free coins, none above most, with the greatest last gap, or None."""
    return None if most < 3 else ((most - 1, most), ())


def own_coins(free):
    """Those of the free coins that the others do not pay."""
    return tuple([coin for coin in free if not _others_pay(free, coin)])


def _others_pay(free, coin):
    lots = [(other, coin) for other in free if other != coin]
    return has_bit(_paid_rows(lots, coin + 1)[-1], coin)


def fewest(coins, amount):
    """The least number of coins that pay the amount; None if it is not paid."""
    greatest = coins[-1]
    far = (greatest - 1) ** 2
    more = 0
    if amount > far:
        # Above far one greatest coin more pays an amount that is greater by it.
        more = (amount - far - 1) // greatest + 1
    small = _fewest_row(coins, amount - more * greatest + 1)[-1]
    return None if small is None else small + more


def _fewest_row(coins, size):
    """The list of the least numbers of coins for all amounts below size, None for unpaid ones."""
    row = [0]
    for amount in range(1, size):
        ahead = [row[amount - coin] for coin in coins if coin <= amount]
        ways = [many + 1 for many in ahead if many is not None]
        row.append(min(ways) if ways else None)
    return row


def greedy(coins, amount):
    """How many coins a greedy payer takes for the amount."""
    _check_one(coins)
    many = 0
    for coin in coins[::-1]:
        many += amount // coin
        amount = amount % coin
    return many


def _check_one(coins):
    if 1 not in coins:
        raise NoOne()


def greedy_right(coins):
    """The table of the amounts for which greedy takes no more coins than needed."""
    _check_one(coins)
    greatest = coins[-1]
    head = max(0, (greatest - 1) ** 2 - greatest + 1)
    needed = _fewest_row(coins, head + greatest)
    right = [greedy(coins, amount) == many for amount, many in enumerate(needed)]
    row = "".join(["1" if is_right else "0" for is_right in right])
    return table_of(row, head)


def greedy_error(coins):
    """The least amount for which greedy takes more coins than needed; None if there is none."""
    return next_from(contrary(greedy_right(coins)), 0)
