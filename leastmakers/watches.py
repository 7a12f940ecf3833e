"""Watches: each goes at a first number and then once in each turn."""

from math import gcd

from leastmakers.bounds import MAX_FIRST, MAX_WATCH, MAX_WATCHES, MAX_WIDEST
from leastmakers.common import bits_of, check_size, is_pair, is_whole, least_multiple
from leastmakers.errors import TooMany
from leastmakers.tables import each_step, least, signs, table_of


def watches_error(value):
    """The first pair (place, word) that tells why value is no watches; None for watches."""
    if not isinstance(value, tuple) or not 1 <= len(value) <= MAX_WATCHES:
        return None, "watches"
    for place, item in enumerate(value):
        word = _watch_error(item)
        if word is not None:
            return place, word
    return None


def _watch_error(value):
    if not is_pair(value):
        return "watch"
    first, turn = value
    if not is_whole(first, 0, MAX_FIRST):
        return "first"
    if not is_whole(turn, 1, MAX_WATCH):
        return "turn"
    return None


def held(watches):
    """The table of the numbers at which some watch goes."""
    head, going_at = _going_row(watches)
    row = "".join(["0" if many == 0 else "1" for many in going_at])
    return table_of(row, head)


def going(watches, many):
    """The table of the numbers at which just so many watches go."""
    head, going_at = _going_row(watches)
    row = "".join(["1" if found == many else "0" for found in going_at])
    return table_of(row, head)


def _going_row(watches):
    """The length of a head, and how many watches go at each number of it and a turn."""
    head = max([0] + [first - step + 1 for first, step in watches])
    turn = least_multiple([step for first, step in watches])
    check_size(head, turn)
    row = [0] * (head + turn)
    for first, step in watches:
        for number in range(first, head + turn, step):
            row[number] += 1
    return head, row


def hands(watches, number):
    """The places of the watches that go at the number, ascending."""
    return tuple([place for place, watch in enumerate(watches) if _goes(watch, number)])


def _goes(watch, number):
    first, turn = watch
    return number >= first and (number - first) % turn == 0


def meeting(one, other):
    """The least number at which both watches go; None if there is none."""
    first, turn = one
    start = max(first, other[0])
    # The first number from start on at which one goes.
    start += (first - start) % turn
    for number in range(start, start + turn * other[1], turn):
        if _goes(other, number):
            return number
    return None


def greatest_turn(many, total):
    """The greatest length of the turn of so many watches, or fewer, with turns of this total."""
    return _best_turns(many, total)[0]


def longest_watches(many, total):
    """Watches that have the turn of greatest_turn, all from 0 on."""
    turns = _best_turns(many, total)[1]
    if turns == ():
        return ((0, 1),)
    return tuple([(0, turn) for turn in turns])


def _best_turns(many, total):
    """The greatest product of turns without common divisors, and these turns, ascending."""
    caps = [[1] * (total + 1)]
    for parts in range(1, many + 1):
        ahead = caps[-1]
        caps.append([max(ahead[left], _even_product(parts, left)) for left in range(total + 1)])
    return _better_turns((1, ()), (1, ()), total, caps)


def _even_product(parts, total):
    """The greatest product of so many integers that come to total."""
    product = 1
    for part in range(parts):
        product = product * ((total + part) // parts)
    return product


def _better_turns(best, found, left, caps):
    """The better one of best and the best that adds smaller turns to those found.

    Both are pairs of a product and its turns. The turns that are added come to at most
    left together; caps[n][s] is a product that n of them with the sum s do not exceed.
    """
    product, turns = found
    if product > best[0]:
        best = found
    if len(caps) == 1:
        return best
    top = min(left, MAX_WATCH)
    if turns != ():
        top = min(top, turns[0] - 1)
    for turn in range(top, 1, -1):
        if product * turn * caps[-2][left - turn] > best[0] and gcd(product, turn) == 1:
            best = _better_turns(best, (product * turn, (turn,) + turns), left - turn, caps[:-1])
    return best


def widest_watches(table):
    """All watches within the table that no other watch within it contains, ascending."""
    table = least(table)
    inside = _watches_within(table)
    watches = tuple([watch for watch in inside if not _contained(watch, inside)])
    if len(watches) > MAX_WIDEST:
        raise TooMany(MAX_WIDEST)
    return watches


def _watches_within(table):
    """All watches whose numbers are all told, ascending, as the keys of a dict."""
    inside = {}
    for first in range(MAX_FIRST + 1):
        for turn in range(1, MAX_WATCH + 1):
            if _is_within((first, turn), table):
                inside[(first, turn)] = True
    return inside


def _is_within(watch, table):
    """Whether all numbers at which the watch goes are told by the table."""
    head, turn = table
    first, step = watch
    if "0" in head[first::step]:
        return False
    # Far out the watch comes to each place of the turn with the same remainder.
    divisor = gcd(step, len(turn))
    return "0" not in turn[(first - len(head)) % divisor::divisor]


def _contained(watch, inside):
    """Whether another watch of those inside goes at all numbers of this one."""
    first, turn = watch
    if (first - turn, turn) in inside:
        return True
    return any([turn % part == 0 and (first, part) in inside for part in range(1, turn)])


def fewest_watches(table):
    """The fewest widest watches that hold just the told numbers; None if there are none."""
    table = least(table)
    watches = widest_watches(table)
    goal, rows = _rows_to_cover(table, watches)
    task = (rows, _unions(rows), goal)
    for many in range(1, min(len(watches), MAX_WATCHES) + 1):
        places = _cover(task, many, 0, 0)
        if places is not None:
            return tuple([watches[place] for place in places])
    return None


def _rows_to_cover(table, watches):
    """The bits of the told numbers and of each watch, as far as a cover must be looked at."""
    head, turn = table
    start = max([len(head)] + [first for first, step in watches])
    # n watches that hold the first 2 ** n numbers of steps of a turn hold all of them.
    rounds = least_multiple([len(turn)] + [step for first, step in watches])
    many = start + min(rounds, len(turn) << MAX_WATCHES)
    rows = [bits_of(signs(each_step(first, step), many)) for first, step in watches]
    return bits_of(signs(table, many)), rows


def _unions(rows):
    """For each place the bits of all rows from it on, and none behind the last one."""
    unions = [0]
    for row in rows[::-1]:
        unions.append(unions[-1] | row)
    return unions[::-1]


def _cover(task, many, start, done):
    """The first so many places from start on whose rows make, with done, the goal; or None."""
    rows, rest, goal = task
    if many == 0:
        return () if done == goal else None
    for place in range(start, len(rows) - many + 1):
        # The rows from place on, all of them, must still reach the goal.
        if (done | rest[place]) != goal:
            return None
        found = _cover(task, many - 1, place + 1, done | rows[place])
        if found is not None:
            return (place,) + found
    return None
