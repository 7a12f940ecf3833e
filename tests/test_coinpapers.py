import itertools
import random
import unittest
from math import gcd

from leastmakers.coinpapers import coin_holds, coin_paper, purse_holds, purse_paper
from leastmakers.coins import leasts, own_coins, paid
from leastmakers.errors import NoFree, RoundError
from leastmakers.joins import star
from leastmakers.tables import ALL, EMPTY, each_step, just
from reckoning import VALUES, Case, longer, plain_least, row, sign, small_tables


def is_number(value):
    return type(value) is int and value >= 0


def all_told(table, many):
    """The told numbers below many, fast for long tables too."""
    head, turn = table
    text = (head + turn * (many // len(turn) + 1))[:many]
    return [number for number, mark in enumerate(text) if mark == "1"]


def plain_open_pairs(table, many):
    """All pairs of told numbers below many, the lower one first, whose sum is not told."""
    numbers = all_told(table, many)
    sums = set(all_told(table, 2 * many))
    return [(m, n) for m in numbers for n in numbers if m <= n and m + n not in sums]


def plain_own(table, many):
    """The told numbers from 1 on, below many, that are no sum of two such numbers."""
    numbers = [number for number in all_told(table, many) if number > 0]
    sums = {m + n for m in numbers for n in numbers if m + n < many}
    return tuple(number for number in numbers if number not in sums)


def plain_paper_holds(table, value, is_closed, own):
    """Whether value is a purse paper on a table of which it is known if it is closed."""
    if type(value) is not tuple or not value or type(value[0]) is not str:
        return False
    if value[0] == "nought":
        return len(value) == 1 and sign(table, 0) == "0"
    if value[0] == "coins":
        return (len(value) == 2 and type(value[1]) is tuple and is_closed and
                all(map(is_number, value[1])) and value[1] == own)
    if value[0] != "sum" or len(value) != 3 or not all(map(is_number, value[1:])):
        return False
    _, m, n = value
    return m <= n and sign(table, m) == sign(table, n) == "1" and sign(table, m + n) == "0"


def about(table):
    """A number beyond all that counts for papers on the table."""
    return 2 * (len(table[0]) + len(table[1])) + 2


class PursePaper(Case):
    def check(self, table):
        """A table that is not long, against all pairs and all sums."""
        many = about(plain_least(table))
        pairs = plain_open_pairs(table, many)
        is_closed = sign(table, 0) == "1" and not pairs
        own = plain_own(table, many)
        paper = self.quick(purse_paper, table)
        self.assertTrue(plain_paper_holds(table, paper, is_closed, own), (table, paper))
        if is_closed:
            self.assert_same(paper, ("coins", own))
        self.assertIs(purse_holds(table, paper), True)
        self.assert_same(purse_holds(table, ("coins", own)), is_closed)
        self.assert_same(purse_holds(table, ("nought",)), sign(table, 0) == "0")
        for m, n in pairs[:5] + pairs[-5:]:
            self.assert_same(purse_holds(table, ("sum", m, n)), True)
        return paper

    def test_examples(self):
        self.assertEqual(purse_paper(("1001", "0")), ("sum", 3, 3))
        self.assertIs(purse_holds(("1001", "0"), ("sum", 3, 3)), True)

    def test_small_tables(self):
        for table in small_tables(5, 4):
            self.check(table)

    def test_empty_and_all(self):
        self.assert_same(self.check(EMPTY), ("nought",))
        self.assert_same(self.check(ALL), ("coins", (1,)))
        self.assert_same(self.check(("1", "0")), ("coins", ()))
        self.assert_same(self.check(("0", "1")), ("nought",))

    def test_many_forms(self):
        picker = random.Random(21)
        for table in (EMPTY, ALL, ("1", "0"), ("", "100"), ("1001", "0"), ("10010110", "1"),
                      ("100", "01"), ("0", "01"), ("1", "10"), ("10000", "100")):
            for _ in range(6):
                self.check(longer(table, picker.randint(0, 30), picker.randint(1, 6)))

    def test_closed_tables(self):
        picker = random.Random(22)
        for _ in range(60):
            numbers = tuple(sorted(picker.sample(range(1, 30), picker.randint(1, 4))))
            table = star(just(numbers))
            paper = self.check(table)
            self.assertEqual(paper[0], "coins")
            self.assertLessEqual(set(paper[1]), set(numbers))
        for step in range(1, 40):
            self.assert_same(self.check(each_step(0, step)), ("coins", (step,)))

    def test_purses(self):
        for free in ((3, 5), (1,), (6, 10, 15), (4, 6, 8), (7, 9, 11, 30), (25, 26, 27, 28, 29, 30)):
            table = paid((free, ()))
            paper = self.quick(purse_paper, table)
            self.assert_same(paper, ("coins", own_coins(free)))

    def test_many_and_great_own_coins(self):
        # 0 and all from k on: k to 2 * k - 1 are own coins.
        for k in (7, 40, 100, 1000, 5000):
            table = ("1" + "0" * (k - 1), "1")
            self.assert_same(self.quick(purse_paper, table), ("coins", tuple(range(k, 2 * k))))
            self.assertIs(purse_holds(table, ("coins", tuple(range(k, 2 * k)))), True)
            self.assertIs(purse_holds(table, ("coins", tuple(range(k, 2 * k - 1)))), False)
            self.assertIs(purse_holds(table, ("coins", tuple(range(k, 2 * k + 1)))), False)
        # The even numbers from 4998 on, and 0.
        table = ("1" + "0" * 4997, "10")
        self.assert_same(self.quick(purse_paper, table), ("coins", tuple(range(4998, 9996, 2))))
        self.assert_same(self.quick(purse_paper, each_step(0, 5000)), ("coins", (5000,)))
        # One small coin and a great one.
        text = "".join("1" if n % 2 == 0 or n >= 4999 else "0" for n in range(5000))
        self.assert_same(self.quick(purse_paper, (text[:4998], "1")), ("coins", (2, 4999)))

    def test_a_sum_that_is_found_late(self):
        # 0, 2500 to 4999, 7401 to 7499 and so on: sums above 4999 are not told.
        table = ("1" + "0" * 2499 + "1" * 2500, "0" * 2401 + "1" * 99)
        paper = self.quick(purse_paper, table)
        self.assertEqual(paper[0], "sum")
        self.assertIs(purse_holds(table, paper), True)
        self.assertTrue(plain_paper_holds(table, paper, False, None))
        # The only untold sums are of the last told numbers.
        for turn in range(2, 40):
            table = ("1" + "0" * turn, "1" * (2 * turn + 1) + "0")
            self.check(table)
        closed = star(just((7, 11)))
        text = row(closed, len(closed[0]) + 60)
        for number in range(len(text)):
            if text[number] == "1":
                self.check((text[:number] + "0" + text[number + 1:], closed[1]))

    def test_a_late_pair_far_from_the_first_numbers(self):
        numbers = [0] + list(range(600, 1200))
        text = "".join("1" if n in numbers else "0" for n in range(1200)) + "1" * 1200
        for wrong in (1200, 1201, 1800, 2398):
            table = (text[:wrong] + "0" + text[wrong + 1:], "1")
            paper = self.quick(purse_paper, table)
            self.assertEqual((paper[0], paper[1] + paper[2]), ("sum", wrong))
            self.assertIs(purse_holds(table, paper), True)
        table = (text[:2399] + "1", "1")
        self.assert_same(self.quick(purse_paper, table), ("coins", tuple(range(600, 1200))))

    def test_without_nought(self):
        for turn in range(1, 12):
            for first in range(1, 6):
                table = each_step(first, turn)
                self.assertIs(purse_holds(table, ("nought",)), True)
                paper = self.check(table)
                self.assertNotEqual(paper[0], "coins")

    def test_long_tables(self):
        picker = random.Random(23)
        for _ in range(6):
            table = ("1" + "".join(picker.choice("01") for _ in range(4999)),
                     "".join(picker.choice("01") for _ in range(5000)))
            paper = self.quick(purse_paper, table)
            self.assertTrue(plain_paper_holds(table, paper, False, None))
        self.quick(purse_paper, ("1" * 5000, "1" * 4999 + "0"))
        self.quick(purse_paper, ("1" * 5000, "1" * 5000))
        self.quick(purse_paper, ("1" + "0" * 4999, "0" * 4999 + "1"))

    def test_by_name(self):
        self.by_name(purse_paper, ("sum", 3, 3), table=("1001", "0"))
        self.by_name(purse_holds, True, table=("1001", "0"), value=("sum", 3, 3))
        self.by_name(purse_holds, False, table=("1001", "0"), value=("sum", 1, 3))


class PurseHolds(Case):
    def check(self, table, value, holds):
        self.check_holds(purse_holds, holds, table, value)

    def test_other_values(self):
        others = VALUES + ("coins", "sum", "nought", ("coins",), ("sum",), ("sum", 3), ["nought"],
                           {"nought": 1}, ("nought", 0), ("nought", None), ("Nought",), (("nought",),),
                           ("coins", (3, 5), ()), ("coins", [3, 5]), ("coins", 3), ("coins", None),
                           ("coins", {3: 5}), ("coins", ((3,), 5)), ["coins", (3, 5)],
                           ("sum", 3, 3, 3), ["sum", 3, 3], ("sum", (3, 3)), ("sum", None, 3),
                           ("sum", "3", 3), ("sum", 3, (3,)), (3, 3), (b"coins", (3, 5)))
        for table in (ALL, EMPTY, ("1001", "0"), ("10010110", "1"), ("0", "1"), ("", "10")):
            for value in others:
                self.check(table, value, False)

    def test_sums(self):
        table = ("1101", "0")
        for m, n in itertools.product(range(-2, 8), repeat=2):
            told_ones = {0, 1, 3}
            wanted = 0 <= m <= n and m in told_ones and n in told_ones and m + n not in told_ones
            self.check(table, ("sum", m, n), wanted)
        self.check(table, ("sum", True, 1), False)
        self.check(table, ("sum", 1, True), False)
        self.check(table, ("sum", True, 3), False)
        self.check(table, ("sum", 1, 1), True)
        self.check(("01", "0"), ("sum", 1, 1), True)
        self.check(("01", "0"), ("sum", True, True), False)
        self.check(("01", "0"), ("nought",), True)
        self.check(("01", "0"), ("coins", (1,)), False)

    def test_other_words(self):
        for word in ("Sum", "", "coins", "nought", "sums", None, True, 3, ("sum",), ["sum"], {}):
            self.check(("1001", "0"), (word, 3, 3), False)
            self.check(ALL, (word, (1,)), word == "coins")
            self.check(("0", "1"), (word,), word == "nought")
        self.check(("1001", "0"), ("sum", 3, 3), True)

    def test_great_sums(self):
        table = ("", "1101")
        far = 10 ** 39
        self.check(table, ("sum", 3, far + 3), True)
        self.check(table, ("sum", far + 3, 3), False)
        self.check(table, ("sum", 3, far + 2), False)
        self.check(table, ("sum", 1, far), False)
        self.check(table, ("sum", far + 1, far + 1), True)
        self.check(table, ("sum", -far, far), False)
        self.check(ALL, ("sum", far, far), False)

    def test_coins(self):
        for table in (("10010110", "1"), longer(("10010110", "1"), 5, 3)):
            self.check(table, ("coins", (3, 5)), True)
            for wrong in ((3,), (5,), (3, 5, 6), (3, 5, 8), (5, 3), (3, 3, 5), (0, 3, 5), (3, 6), (),
                          (3, 5, 10 ** 39), (-3, 5), (3, "5"), (3, None)):
                self.check(table, ("coins", wrong), False)
        self.check(ALL, ("coins", (1,)), True)
        self.check(ALL, ("coins", (True,)), False)
        self.check(ALL, ("coins", [1]), False)
        self.check(ALL, ("coins", ()), False)
        self.check(("1", "0"), ("coins", ()), True)
        self.check(("1", "0"), ("coins", []), False)
        self.check(EMPTY, ("coins", ()), False)
        # The own coins of a table that is not closed, and of one without 0.
        self.check(("1001", "0"), ("coins", (3,)), False)
        self.check(("0", "1"), ("coins", (1,)), False)

    def test_the_words_do_not_stand_side_by_side(self):
        for table in small_tables(4, 3):
            words = {value[0] for value in
                     [("nought",)] + [("sum", m, n) for m in range(16) for n in range(m, 16)] +
                     [("coins", plain_own(table, 20))] if purse_holds(table, value)}
            self.assertTrue(words)
            self.assertTrue("coins" not in words or words == {"coins"})


FREE_PURSES = (
    ((1,), ()), ((30,), ()), ((2, 3), ()), ((3, 5), ()), ((4, 6), ()), ((6, 10, 15), ()),
    ((29, 30), ()), ((25, 26, 27, 28, 29, 30), ()), ((10, 20, 30), ()), ((12, 18, 30), ()),
    ((9, 27), ()), ((2,), ()),
)
MIXED_PURSES = (
    ((6,), ((4, 1),)), ((6,), ((4, 2),)), ((30,), ((29, 20),)), ((30,), ((1, 7),)), ((2,), ((3, 1),)),
    ((4, 6), ((3, 1),)), ((10, 15), ((1, 2), (7, 1))), ((5,), ((3, 1), (4, 1))), ((1,), ((2, 3),)),
    ((29, 30), ((25, 20), (26, 20), (27, 20), (28, 20))), ((12, 18), ((4, 2), (9, 1))),
    ((20,), ((4, 2), (10, 1), (15, 1))), ((9, 12), ((1, 1), (30, 20))),
)
NO_FREE = (((), ((1, 1),)), ((), ((2, 2),)), ((), ((30, 20),)), ((), ((3, 1), (5, 2))),
           ((), tuple((coin, 20) for coin in range(25, 31))))


def random_purses(many, most):
    picker = random.Random(24)
    purses = []
    for _ in range(many):
        coins = picker.sample(range(1, most + 1), picker.randint(1, 6))
        cut = picker.randint(1, len(coins))
        bounded = tuple(sorted((coin, picker.randint(1, 20)) for coin in coins[cut:]))
        purses.append((tuple(sorted(coins[:cut])), bounded))
    return tuple(purses)


def plain_is_paid(purse, amount):
    """Whether the amount is paid, by the sums of bounded coins and then of free ones."""
    free, bounded = purse
    far = sum(coin * times for coin, times in bounded) + free[0] * free[-1]
    if amount >= far:
        amount = far + (amount - far) % free[0]
    found = {0}
    for coin, times in bounded:
        found = {n + k * coin for n in found for k in range(times + 1) if n + k * coin <= amount}
    for number in range(amount + 1):
        if any(number - coin in found for coin in free):
            found.add(number)
    return amount in found


def fits(ahead, own, more):
    """Whether where the row ahead tells r, its own one tells r + more, at most more greater."""
    for rest, item in enumerate(ahead):
        if item is not None:
            there = own[(rest + more) % len(own)]
            if there is None or there - item > more:
                return False
    return True


def plain_coin_holds(purse, amount, value):
    """Whether value is a coin paper, condition by condition."""
    free, bounded = purse
    if type(value) is not tuple or len(value) != 2 or type(value[1]) is not tuple:
        return False
    if type(value[0]) is not str:
        return False
    word, thing = value
    if word == "paid":
        coins = list(free) + [coin for coin, _ in bounded]
        if len(thing) != len(coins) or not all(map(is_number, thing)):
            return False
        if any(many > times for many, (_, times) in zip(thing[len(free):], bounded)):
            return False
        return sum(many * coin for many, coin in zip(thing, coins)) == amount
    if word != "short" or len(thing) != 1 + len(bounded):
        return False
    for one in thing:
        if type(one) is not tuple or len(one) != free[0]:
            return False
        if not all(item is None or is_number(item) for item in one):
            return False
    if thing[0][0] != 0 or not all(fits(thing[0], thing[0], coin) for coin in free):
        return False
    for place, (coin, times) in enumerate(bounded):
        for many in range(times + 1):
            if not fits(thing[place], thing[place + 1], many * coin):
                return False
    item = thing[-1][amount % free[0]]
    return item is None or item > amount


def amounts_of(purse):
    """Amounts that are small, about the end of what is not paid, and great."""
    end = len(paid(purse)[0])
    near = list(range(25)) + list(range(max(0, end - 3), end + 4))
    return sorted(set(near + [10 ** 18, 10 ** 18 - 1, 10 ** 18 - 7, 10 ** 9 + 1]))


def wrong_in_one(thing):
    """Rows with one item changed, in many ways."""
    for place, one in enumerate(thing):
        for rest, item in enumerate(one):
            news = [None, 0, -1, "0", True] if item is None else [
                None, item + 1, item - 1, item + len(one), item + 1000, str(item), -1, 10 ** 39]
            for new in news:
                changed = one[:rest] + (new,) + one[rest + 1:]
                yield thing[:place] + (changed,) + thing[place + 1:]


class CoinPaper(Case):
    def check(self, purse, amount):
        paper = self.quick(coin_paper, purse, amount)
        self.assertTrue(plain_coin_holds(purse, amount, paper), (purse, amount, paper))
        self.assertEqual(paper[0], "paid" if plain_is_paid(purse, amount) else "short")
        self.assert_same(coin_holds(purse, amount, paper), True)
        return paper

    def test_amounts(self):
        for purse in FREE_PURSES + MIXED_PURSES + random_purses(25, 30) + random_purses(25, 9):
            for amount in amounts_of(purse):
                self.check(purse, amount)

    def test_rows_are_for_all_amounts_that_are_not_paid(self):
        for purse in FREE_PURSES + MIXED_PURSES:
            amount = next((n for n in range(1000) if not plain_is_paid(purse, n)), None)
            if amount is None:
                continue
            word, thing = self.check(purse, amount)
            self.assertEqual((word, len(thing)), ("short", 1 + len(purse[1])))
            for other in range(60):
                if not plain_is_paid(purse, other):
                    self.assert_same(coin_holds(purse, other, ("short", thing)),
                                     plain_coin_holds(purse, other, ("short", thing)))

    def test_common_divisors(self):
        for purse in (((4, 6), ()), ((6,), ()), ((10, 20, 30), ()), ((6,), ((4, 1),)),
                      ((12, 18, 30), ((6, 20),)), ((10, 15), ((20, 3),))):
            self.assertGreater(gcd(*purse[0]), 1)
            for amount in list(range(60)) + [10 ** 18 - k for k in range(12)]:
                self.check(purse, amount)

    def test_no_free(self):
        values = VALUES + (("paid", (1,)), ("paid", ()), ("short", ()), ("short", ((0,), (0,))))
        for purse in NO_FREE:
            for amount in (0, 1, 2, 30, 10 ** 18):
                for kind in (NoFree, RoundError, ValueError):
                    with self.assertRaises(kind):
                        coin_paper(purse, amount)
                for value in values:
                    with self.assertRaises(NoFree):
                        coin_holds(purse, amount, value)

    def test_by_name(self):
        self.by_name(coin_paper, ("paid", (1, 1)), purse=((3, 5), ()), amount=8)
        self.by_name(coin_holds, True, purse=((3, 5), ()), amount=8, value=("paid", (1, 1)))
        self.by_name(coin_holds, False, purse=((3, 5), ()), amount=7, value=("paid", (1, 1)))
        with self.assertRaises(NoFree):
            coin_paper(amount=1, purse=NO_FREE[0])


class CoinHolds(Case):
    def check(self, purse, amount, value):
        wanted = plain_coin_holds(purse, amount, value)
        self.check_holds(coin_holds, wanted, purse, amount, value)
        return wanted

    def test_example(self):
        self.assertIs(coin_holds(((3, 5), ()), 7, ("short", ((0, 10, 5),))), True)
        self.assertIs(coin_holds(((3, 5), ()), 8, ("short", ((0, 10, 5),))), False)
        self.assertIs(coin_holds(((3, 5), ()), 10, ("short", ((0, 10, 5),))), False)
        self.assertIs(coin_holds(((3, 5), ()), 7, ("short", ((0, 10, 4),))), False)

    def test_other_values(self):
        values = VALUES + (
            ("paid",), ("short",), ["short", ((0, 10, 5),)], ("short", [(0, 10, 5)]),
            ("short", ([0, 10, 5],)), ("short", ((0, 10, 5),), ()), ("Short", ((0, 10, 5),)),
            ("short", (0, 10, 5)), ("short", ((0, 10),)), ("short", ((0, 10, 5, 15),)),
            ("short", ()), ("short", ((0, 10, 5), (0, 10, 5))), ("short", (((0, 10, 5),),)),
            ("short", ({0: 10, 1: 10, 2: 5},)), ("short", ("123",)), (0, 10, 5), ((0, 10, 5),),
            ("paid", [1, 1]), ("paid", (1, 1, 0)), ("paid", (1,)), ("paid", ((1, 1),)), (1, 1),
            ("short", ((False, 10, 5),)), ("short", ((0, 10, True),)), ("short", (("0", 10, 5),)),
            ("short", ((None, 10, 5),)), ("short", ((None, None, None),)), ("short", None))
        for amount in (7, 8, 0, 10 ** 18):
            for value in values:
                self.assertFalse(self.check(((3, 5), ()), amount, value), value)

    def test_truths(self):
        purse = ((1,), ())
        self.assertTrue(self.check(purse, 1, ("paid", (1,))))
        self.assertFalse(self.check(purse, 1, ("paid", (True,))))
        self.assertFalse(self.check(purse, 0, ("paid", (False,))))
        self.assertFalse(self.check(purse, 0, ("short", ((0,),))))
        self.assertFalse(self.check(((2,), ()), 1, ("short", ((False, None),))))
        self.assertTrue(self.check(((2,), ()), 1, ("short", ((0, None),))))
        self.assertTrue(self.check(((2,), ()), 1, ("short", ((0, 3),))))
        self.assertFalse(self.check(((2,), ()), 0, ("short", ((0, True),))))

    def test_rows_that_are_not_the_leasts(self):
        purse = ((4,), ((3, 1),))
        # No free coin asks for the further remainders: they may be anything.
        self.assertTrue(self.check(purse, 5, ("short", ((0, None, None, None), (0, None, None, 3)))))
        self.assertTrue(self.check(purse, 5, ("short", ((0, None, None, None), (0, 6, 7, 3)))))
        self.assertTrue(self.check(purse, 5, ("short", ((0, None, None, None), (0, 6, 7, 0)))))
        self.assertTrue(self.check(purse, 5, ("short", ((0, 40, None, None), (0, 6, 7, 3)))))
        self.assertTrue(self.check(purse, 5, ("short", ((0, 40, None, None), (0, 6, None, 3)))))
        self.assertFalse(self.check(purse, 5, ("short", ((0, 40, None, None), (0, None, 7, 3)))))
        self.assertFalse(self.check(purse, 5, ("short", ((0, 40, None, None), (0, 6, 7, 4)))))
        self.assertFalse(self.check(purse, 5, ("short", ((0, 2, None, None), (0, 2, 5, 3)))))
        self.assertTrue(self.check(((3, 5), ()), 4, ("short", ((0, 6, 5),))))
        self.assertTrue(self.check(((3, 5), ()), 4, ("short", ((0, 9, 4),))))
        self.assertTrue(self.check(((3, 5), ()), 4, ("short", ((0, 5, 0),))))
        self.assertFalse(self.check(((3, 5), ()), 4, ("short", ((0, 4, 0),))))
        self.assertFalse(self.check(((3, 5), ()), 4, ("short", ((0, 11, 5),))))
        self.assertFalse(self.check(((3, 5), ()), 4, ("short", ((0, None, 5),))))

    def test_rows_of_another_length(self):
        purse = ((2,), ())
        self.assertTrue(self.check(purse, 1, ("short", ((0, 4),))))
        # By its own length the row would carry on each of its items.
        self.assertFalse(self.check(purse, 1, ("short", ((0, 4, 2),))))
        self.assertFalse(self.check(purse, 1, ("short", ((0, 4, 2, 6),))))
        self.assertFalse(self.check(purse, 1, ("short", ((0,),))))
        self.assertFalse(self.check(purse, 1, ("short", ((),))))
        mixed = ((2,), ((4, 1),))
        self.assertTrue(self.check(mixed, 1, ("short", ((0, None), (0, None)))))
        self.assertFalse(self.check(mixed, 1, ("short", ((0, None), (0, None, None)))))
        self.assertFalse(self.check(mixed, 1, ("short", ((0, None, None, None), (0, None)))))

    def test_wrong_in_one_item(self):
        purses = (((3, 5), ()), ((4,), ((3, 1),)), ((4, 6), ((3, 1),)), ((5,), ((3, 1), (4, 1))),
                  ((6,), ((4, 1),)), ((6, 10, 15), ()), ((2,), ((3, 1), (5, 20))), ((1,), ((2, 3),)))
        found = {True: 0, False: 0}
        for purse in purses:
            thing = tuple(leasts((purse[0], purse[1][:k])) for k in range(len(purse[1]) + 1))
            amounts = [n for n in range(30) if not plain_is_paid(purse, n)][-3:] + [0, 11, 10 ** 18]
            for amount in amounts:
                self.check(purse, amount, ("short", thing))
                self.check(purse, amount, ("short", thing[:-1]))
                self.check(purse, amount, ("short", thing + thing[-1:]))
                for changed in wrong_in_one(thing):
                    found[self.check(purse, amount, ("short", changed))] += 1
        self.assertGreater(min(found.values()), 50)

    def test_wrong_counts(self):
        purse = ((3, 5), ((4, 2),))
        for counts in itertools.product(range(-1, 4), repeat=3):
            amount = 3 * counts[0] + 5 * counts[1] + 4 * counts[2]
            for asked in (amount, amount + 1, max(0, amount - 1)):
                self.check(purse, max(asked, 0), ("paid", counts))

    def test_each_condition_by_itself(self):
        purse = ((2, 3), ((7, 2),))
        first = (0, 3)
        self.assertTrue(plain_coin_holds(purse, 1, ("short", (first, (0, 3)))))
        self.assertTrue(self.check(purse, 1, ("short", (first, (0, 3)))))
        # The item at 0 of the first row, a free coin, a bounded one taken once and twice.
        self.assertFalse(self.check(purse, 1, ("short", ((2, 3), (0, 3)))))
        self.assertFalse(self.check(purse, 1, ("short", ((0, None), (0, 3)))))
        self.assertFalse(self.check(purse, 1, ("short", ((0, 4), (0, 3)))))
        self.assertFalse(self.check(purse, 1, ("short", (first, (1, 3)))))
        self.assertFalse(self.check(purse, 1, ("short", (first, (0, 4)))))
        self.assertFalse(self.check(purse, 1, ("short", (first, (None, 3)))))
        twice = ((4,), ((1, 2),))
        self.assertTrue(self.check(twice, 3, ("short", ((0, None, None, None), (0, 1, 2, None)))))
        self.assertFalse(self.check(twice, 3, ("short", ((0, None, None, None), (0, 1, 3, None)))))
        self.assertFalse(self.check(twice, 3, ("short", ((0, None, None, None), (0, 1, None, None)))))
        self.assertTrue(self.check(twice, 3, ("short", ((0, None, None, None), (0, 1, 2, 7)))))
        self.assertFalse(self.check(twice, 7, ("short", ((0, None, None, None), (0, 1, 2, 7)))))


if __name__ == "__main__":
    unittest.main()
