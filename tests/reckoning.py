"""Plain reckonings, number by number, that the tests compare the program with."""

import copy
import itertools
import time
import unittest
from math import lcm

# Values of all kinds that an argument called value may take.
DEEP = ("0",)
for _ in range(11):
    DEEP = (DEEP,)

VALUES = (
    None, True, False, 0, 1, -1, 7, 10 ** 39, -10 ** 39, "", "0", "1", "01", "a b\n\tc",
    "0" * 20000, (), [], {}, ("",), ("", ""), ("0", "1", "0"), ["", "0"], [("", "0")],
    {"": "0"}, {"head": "", "turn": "0"}, (("", "0"),), ((), ()), ([], []), ({}, {}),
    (None, None), (True, False), (0, 1), ((0, 1),), ((0, 1), (2, 3)), (((0, 1),), ((2, 3),)),
    DEEP, ["x", ("y", [None, {"z": (True, 1)}])],
)


def sign(table, number):
    """The sign of the number, as point [A1] tells it."""
    head, turn = table
    return head[number] if len(head) > number else turn[(number - len(head)) % len(turn)]


def row(table, many):
    """The signs of the first so many numbers."""
    return "".join(sign(table, number) for number in range(many))


def told(table, many):
    """The set of the told numbers below many."""
    return {number for number in range(many) if sign(table, number) == "1"}


def plain_least(table):
    """The least table of the same set: the shortest turn, then the shortest head."""
    head, turn = table
    text = row(table, len(head) + 2 * len(turn))
    for size in range(1, len(turn) + 1):
        # From the head on a sign that differs from the one a turn later differs for ever.
        unlike = [n for n in range(len(head) + len(turn)) if text[n] != text[n + size]]
        start = unlike[-1] + 1 if unlike else 0
        if start <= len(head):
            return text[:start], text[start:start + size]
    raise AssertionError("a table tells its own set")


def words(least, most):
    """All words of the signs 0 and 1 with from least to most signs."""
    for many in range(least, most + 1):
        for letters in itertools.product("01", repeat=many):
            yield "".join(letters)


def small_tables(head, turn):
    """All tables with heads and turns of at most so many signs."""
    return [(a, b) for a in words(0, head) for b in words(1, turn)]


def least_tables(head, turn):
    """All least tables among the small ones."""
    return [table for table in small_tables(head, turn) if plain_least(table) == table]


def longer(table, more, times):
    """The same set with a head that is longer by more and a turn repeated so many times."""
    head, turn = table
    cut = more % len(turn)
    longer_head = row(table, len(head) + more)
    return longer_head, (turn[cut:] + turn[:cut]) * times


def prime_turn(size):
    """A least turn of so many signs."""
    return "1" + "0" * (size - 1)


def from_numbers(numbers, head, turn):
    """The least table that tells the numbers, which come round with this head and turn."""
    text = "".join("1" if number in numbers else "0" for number in range(head + turn))
    return plain_least((text[:head], text[head:]))


def shared_turn(*tables):
    """The least common multiple of the lengths of the turns."""
    return lcm(*[len(turn) for _, turn in tables])


class Case(unittest.TestCase):
    """A test case with what several tests ask for."""

    # Far more than any call takes, so that a busy machine fails no test.
    LIMIT = 5

    def quick(self, function, *values, **named):
        """What the function returns, within the time limit; a second equal call agrees."""
        before = copy.deepcopy((values, named))
        start = time.perf_counter()
        result = function(*values, **named)
        self.assertLess(time.perf_counter() - start, self.LIMIT, function.__name__)
        self.assertEqual((values, named), before)
        self.assert_same(function(*copy.deepcopy(values), **copy.deepcopy(named)), result)
        return result

    def assert_same(self, found, wanted):
        """Equal values of the same kinds, so that True is not taken for 1."""
        self.assertEqual(found, wanted)
        self.assertEqual(repr(found), repr(wanted))

    def check_value(self, function, value, wanted):
        """The function tells wanted of any value, twice, and leaves the value as it was."""
        self.check_holds(function, wanted, value)

    def check_holds(self, function, wanted, *values):
        """The function tells wanted, twice, and leaves what it is passed as it was."""
        before = repr(values)
        self.assert_same(function(*values), wanted)
        self.assert_same(function(*values), wanted)
        self.assertEqual(repr(values), before)

    def by_name(self, function, wanted, **named):
        """The function, handed its arguments by name, in both orders, returns wanted."""
        self.assert_same(function(**named), wanted)
        self.assert_same(function(**dict(reversed(list(named.items())))), wanted)
        self.assert_same(function(*named.values()), wanted)

    def assert_table(self, found, wanted):
        """A table that is least and tells just the numbers of the wanted table."""
        self.assertIs(type(found), tuple)
        self.assertEqual(found, plain_least(wanted))
