import itertools
import random
import unittest
from math import gcd

from leastmakers.coins import (
    fewest, gap_purse, gaps, greatest_gap, greedy, greedy_error, greedy_right, last_gap, leasts,
    own_coins, paid, pay, pay_holds, purse_error)
from leastmakers.errors import NoFree, NoOne, RoundError
from leastmakers.tables import ALL, least
from reckoning import VALUES, Case, from_numbers, sign, told

# What is no coin and no times, whatever the bounds are.
NO_COINS = (None, True, False, 0, -1, 10 ** 39, -10 ** 39, "", "1", "5", (), (1,), [], [1], {},
            {1: 1})

FREE_PURSES = (
    ((1,), ()), ((30,), ()), ((2, 3), ()), ((3, 5), ()), ((4, 6), ()), ((6, 10, 15), ()),
    ((29, 30), ()), ((28, 30), ()), ((25, 26, 27, 28, 29, 30), ()), ((7, 11, 13), ()),
    ((10, 20, 30), ()), ((1, 2, 3, 4, 5, 6), ()), ((12, 18, 30), ()), ((9, 27), ()),
)
BOUNDED_PURSES = (
    ((), ((1, 1),)), ((), ((2, 2),)), ((), ((30, 20),)), ((), ((3, 1), (5, 2))),
    ((), ((7, 20), (11, 3), (30, 1))), ((), tuple((coin, 20) for coin in range(25, 31))),
    ((), ((1, 20), (2, 20), (3, 20), (4, 20), (5, 20), (6, 20))), ((), ((6, 3), (10, 2))),
)
MIXED_PURSES = (
    ((6,), ((4, 1),)), ((6,), ((4, 2),)), ((30,), ((29, 20),)), ((30,), ((1, 7),)),
    ((29, 30), ((25, 20), (26, 20), (27, 20), (28, 20))), ((2,), ((3, 1),)), ((4, 6), ((3, 1),)),
    ((10, 15), ((1, 2), (7, 1))), ((5,), ((3, 1), (4, 1))), ((12, 18), ((4, 2), (9, 1))),
    ((1,), ((2, 3),)), ((20,), ((4, 2), (10, 1), (15, 1))), ((9, 12), ((1, 1), (30, 20))),
)
PURSES = FREE_PURSES + BOUNDED_PURSES + MIXED_PURSES


def plain_paid(purse, many):
    """The set of the paid numbers below many."""
    free, bounded = purse
    found = {0}
    for coin, times in bounded:
        found = {n + k * coin for n in found for k in range(times + 1) if n + k * coin < many}
    for number in range(many):
        if any(number - coin in found for coin in free):
            found.add(number)
    return found


def far_enough(purse):
    """A number from which on the paid numbers come round."""
    free, bounded = purse
    return sum(coin * times for coin, times in bounded) + (free[0] * free[-1] if free else 1)


def plain_is_paid(purse, amount):
    """Whether the amount is paid, also a great one."""
    free = purse[0]
    start = far_enough(purse)
    if amount >= start:
        if not free:
            return False
        amount = start + (amount - start) % free[0]
    return amount in plain_paid(purse, amount + 1)


def random_purse(picker, most):
    coins = picker.sample(range(1, most + 1), picker.randint(1, 6))
    cut = picker.randint(0, len(coins))
    bounded = tuple(sorted((coin, picker.randint(1, 20)) for coin in coins[cut:]))
    return tuple(sorted(coins[:cut])), bounded


def random_purses(many, most):
    picker = random.Random(10)
    return tuple(random_purse(picker, most) for _ in range(many))


class PurseError(Case):
    def check(self, value, word):
        self.check_value(purse_error, value, word)

    def test_purses(self):
        for purse in PURSES + random_purses(200, 30):
            self.check(purse, None)
        for coin in range(1, 31):
            self.check(((coin,), ()), None)
            for times in range(1, 21):
                self.check(((), ((coin, times),)), None)

    def test_pair(self):
        for value in VALUES + ([(3,), ()], ((3,),), ((3,), (), ()), {(3,): ()}, "35"):
            if not isinstance(value, tuple) or len(value) != 2:
                self.check(value, "pair")

    def test_free(self):
        for wrong in NO_COINS + (31, 32, 100):
            for bounded in ((), ((3, 1),), None, ((3, 0),)):
                self.check(((wrong,), bounded), "free")
                self.check(((1, 2, wrong), bounded), "free")
                self.check(((wrong, 30), bounded), "free")
        for wrong in (None, True, 5, "", "35", [], [3], {}, {3: 5}, (5, 3), (3, 3), (1, 2, 2),
                      (1, 3, 2), (2, 1, 3), ((3,),), ((3, 1),)):
            for bounded in ((), ((3, 1),), None, ((3, 0),)):
                self.check((wrong, bounded), "free")

    def test_bounded(self):
        for free in ((), (3, 5), tuple(range(1, 31))):
            for wrong in NO_COINS + (31, 32, 100):
                self.check((free, ((wrong, 1),)), "bounded")
                self.check((free, ((1, 1), (wrong, 1))), "bounded")
            for wrong in NO_COINS + (21, 22, 100):
                self.check((free, ((1, wrong),)), "bounded")
                self.check((free, ((1, 1), (2, wrong))), "bounded")
                self.check((free, ((1, wrong), (2, 1))), "bounded")
            for wrong in (None, True, 5, "", "35", [], [(3, 1)], {}, {3: 5}, (3, 1), (3,), ((3,),),
                          ((3, 1, 1),), ([3, 1],), ("31",), (None,), ((),),
                          ((5, 1), (3, 1)), ((3, 1), (3, 1)), ((3, 2), (3, 1)),
                          ((1, 1), (3, 1), (2, 1)), ((2, 1), (1, 1), (3, 1))):
                self.check((free, wrong), "bounded")

    def test_twice(self):
        self.check(((3,), ((3, 1),)), "twice")
        self.check(((1, 3, 5), ((2, 1), (5, 1))), "twice")
        self.check(((1, 3, 5), ((1, 1), (2, 1))), "twice")
        self.check(((), ((3, 1), (3, 2))), "twice")
        self.check(((), ((1, 1), (3, 1), (3, 2), (3, 20))), "twice")
        self.check(((1, 2), ((4, 1), (4, 2), (5, 1))), "twice")
        # A coin that stands twice is told ahead of too many coins.
        self.check(((1, 2, 3, 4, 5, 6), ((6, 1),)), "twice")
        self.check((tuple(range(1, 31)), ((30, 20),)), "twice")
        self.check(((), tuple((3, times) for times in range(1, 21))), "twice")

    def test_many(self):
        self.check(((), ()), "many")
        for free in range(7):
            for bounded in range(7):
                if free + bounded == 0:
                    continue
                purse = (tuple(range(1, free + 1)), tuple((k, 2) for k in range(10, 10 + bounded)))
                self.check(purse, None if free + bounded <= 6 else "many")
        self.check((tuple(range(1, 8)), ()), "many")
        self.check((tuple(range(1, 31)), ()), "many")
        self.check(((), tuple((coin, 20) for coin in range(1, 31))), "many")

    def test_by_name(self):
        self.by_name(purse_error, None, value=((3,), ()))
        self.by_name(purse_error, "free", value=((True,), ()))


class Paid(Case):
    def check(self, purse):
        start = far_enough(purse)
        turn = gcd(*purse[0]) if purse[0] else 1
        many = start + 3 * turn + 40
        found = self.quick(paid, purse)
        wanted = plain_paid(purse, many)
        self.assertEqual(told(found, many), wanted)
        self.assert_same(least(found), found)
        self.check_size(purse, found)

    def check_size(self, purse, found):
        free, bounded = purse
        top = sum(coin * times for coin, times in bounded)
        if not free:
            self.assertEqual((len(found[0]), found[1]), (top + 1, "0"))
            return
        divisor = gcd(*free)
        most = top + (free[0] - divisor) * (free[-1] - divisor) // divisor
        self.assertLessEqual(len(found[0]), most)
        self.assertEqual(divisor % len(found[1]), 0)

    def test_examples(self):
        self.assertEqual(paid(((3, 5), ())), ("10010110", "1"))
        self.assertEqual(paid(((6,), ((4, 1),))), ("", "100010"))
        self.assertEqual(paid(((), ((2, 2),))), ("10101", "0"))

    def test_against_the_numbers(self):
        for purse in PURSES + random_purses(60, 30) + random_purses(120, 9):
            self.check(purse)

    def test_all_pairs_of_free_coins(self):
        for one, other in itertools.combinations(range(1, 13), 2):
            self.check(((one, other), ()))
            self.check(((other,), ((one, 2),)))
            self.check(((one,), ((other, 1),)))

    def test_greatest_purses(self):
        for free, bounded in (((29, 30), (25, 26, 27, 28)), ((), range(25, 31)), ((30,), range(25, 30)),
                              ((1,), range(26, 31)), ((15, 30), range(26, 30))):
            self.check((free, tuple((coin, 20) for coin in bounded)))

    def test_by_name(self):
        self.by_name(paid, ("", "100010"), purse=((6,), ((4, 1),)))


class Pay(Case):
    def check(self, purse, amount, is_paid):
        counts = self.quick(pay, purse, amount)
        if not is_paid:
            self.assertIsNone(counts)
            return
        free, bounded = purse
        self.assertIs(type(counts), tuple)
        self.assertEqual(len(counts), len(free) + len(bounded))
        self.assertTrue(all(type(count) is int and count >= 0 for count in counts))
        coins = list(free) + [coin for coin, _ in bounded]
        self.assertEqual(sum(count * coin for count, coin in zip(counts, coins)), amount)
        for count, (_, times) in zip(counts[len(free):], bounded):
            self.assertLessEqual(count, times)
        self.assertIs(pay_holds(purse, amount, counts), True)

    def test_small_amounts(self):
        for purse in PURSES + random_purses(30, 30):
            numbers = plain_paid(purse, 120)
            for amount in range(120):
                self.check(purse, amount, amount in numbers)

    def test_amounts_about_the_end_of_the_head(self):
        for purse in PURSES + random_purses(20, 12):
            start = far_enough(purse)
            numbers = plain_paid(purse, start + 40)
            end = len(paid(purse)[0])
            for amount in list(range(max(0, end - 6), end + 7)) + list(range(start, start + 8)):
                self.check(purse, amount, amount in numbers)

    def test_great_amounts(self):
        for purse in PURSES:
            for amount in (10 ** 18, 10 ** 18 - 1, 10 ** 18 - 7, 10 ** 9, 10 ** 5 + 1):
                self.check(purse, amount, plain_is_paid(purse, amount))

    def test_by_name(self):
        self.by_name(pay, (1, 1), purse=((3, 5), ()), amount=8)
        self.by_name(pay, None, purse=((3, 5), ()), amount=7)


class PayHolds(Case):
    def check(self, purse, amount, value, holds):
        self.check_holds(pay_holds, holds, purse, amount, value)

    def test_all_small_counts(self):
        for purse in (((3, 5), ()), ((2,), ((3, 1), (4, 2))), ((), ((1, 2), (3, 2))), ((6, 10, 15), ())):
            free, bounded = purse
            coins = list(free) + [coin for coin, _ in bounded]
            most = [99] * len(free) + [times for _, times in bounded]
            for counts in itertools.product(range(5), repeat=len(coins)):
                amount = sum(count * coin for count, coin in zip(counts, coins))
                fits = all(count <= top for count, top in zip(counts, most))
                self.check(purse, amount, counts, fits)
                self.check(purse, amount + 1, counts, False)
                if amount > 0:
                    self.check(purse, amount - 1, counts, False)

    def test_great_counts(self):
        self.check(((1, 2), ()), 10 ** 18, (10 ** 18, 0), True)
        self.check(((1, 2), ()), 10 ** 18, (0, 5 * 10 ** 17), True)
        self.check(((1, 2), ()), 10 ** 18, (10 ** 18 - 2, 1), True)
        self.check(((1, 2), ()), 10 ** 18, (10 ** 18 - 1, 1), False)
        self.check(((1, 2), ()), 10 ** 18, (10 ** 18 + 2, -1), False)
        self.check(((1, 2), ()), 10 ** 18, (10 ** 39, 10 ** 39), False)
        self.check(((), ((5, 20),)), 100, (20,), True)
        self.check(((), ((5, 20),)), 105, (21,), False)
        self.check(((5,), ()), 105, (21,), True)
        self.check(((1,), ((5, 20),)), 105, (0, 21), False)
        self.check(((1,), ((5, 20),)), 105, (5, 20), True)

    def test_negative_counts(self):
        self.check(((3, 5), ()), 1, (2, -1), False)
        self.check(((3,), ((5, 3),)), 1, (2, -1), False)
        self.check(((3,), ((5, 3),)), 2, (-1, 1), False)

    def test_wrong_forms(self):
        for value in VALUES + ([1, 1], (1,), (1, 1, 0), (1, 1, 1), "11", {1: 1}, ((1, 1),),
                               ([1], [1]), ("1", "1"), (1, None), (None, 1)):
            if value != (1, 1) and value != (True, True):
                self.check(((3, 5), ()), 8, value, False)
        self.check(((3, 5), ()), 8, (1, 1), True)

    def test_truths(self):
        self.check(((3, 5), ()), 8, (True, 1), False)
        self.check(((3, 5), ()), 8, (1, True), False)
        self.check(((3, 5), ()), 8, (True, True), False)
        self.check(((3, 5), ()), 3, (1, False), False)
        self.check(((3,), ((5, 2),)), 3, (1, False), False)
        self.check(((3,), ((5, 2),)), 5, (0, True), False)
        self.check(((3, 5), ()), 0, (0, 0), True)
        self.check(((3, 5), ()), 0, (False, False), False)

    def test_by_name(self):
        self.by_name(pay_holds, True, purse=((3, 5), ()), amount=8, value=(1, 1))
        self.by_name(pay_holds, False, purse=((3, 5), ()), amount=8, value=[1, 1])


class Gaps(Case):
    def test_examples(self):
        purse = ((3, 5), ())
        self.assertEqual(leasts(purse), (0, 10, 5))
        self.assertEqual(last_gap(purse), 7)
        self.assertEqual(gaps(purse), 4)

    def test_leasts(self):
        for purse in FREE_PURSES + MIXED_PURSES + random_purses(60, 30) + random_purses(60, 9):
            free = purse[0]
            if not free:
                continue
            numbers = sorted(plain_paid(purse, far_enough(purse) + free[0]))
            wanted = tuple(next((n for n in numbers if n % free[0] == rest), None)
                           for rest in range(free[0]))
            self.assert_same(self.quick(leasts, purse), wanted)
            for amount in (0, 1, 17, 100, 500, 10 ** 18, 10 ** 18 - 1):
                item = leasts(purse)[amount % free[0]]
                self.assertEqual(item is not None and item <= amount, plain_is_paid(purse, amount))

    def test_no_free_coins(self):
        for purse in BOUNDED_PURSES:
            for kind in (NoFree, RoundError, ValueError):
                with self.assertRaises(kind):
                    leasts(purse)
                with self.assertRaises(kind):
                    leasts(purse=purse)

    def test_last_gap_and_gaps(self):
        for purse in PURSES + random_purses(60, 30) + random_purses(60, 9):
            start = far_enough(purse)
            turn = gcd(*purse[0]) if purse[0] else 1
            numbers = plain_paid(purse, start + turn)
            endless = any(n not in numbers for n in range(start, start + turn))
            unpaid = [n for n in range(start) if n not in numbers]
            self.assert_same(self.quick(last_gap, purse),
                             None if endless or not unpaid else unpaid[-1])
            self.assert_same(self.quick(gaps, purse), None if endless else len(unpaid))

    def test_known_gaps(self):
        self.assertEqual([last_gap(((1,), ())), gaps(((1,), ()))], [None, 0])
        self.assertEqual([last_gap(((2,), ())), gaps(((2,), ()))], [None, None])
        self.assertEqual([last_gap(((), ((1, 5),))), gaps(((), ((1, 5),)))], [None, None])
        self.assertEqual([last_gap(((2,), ((5, 1),))), gaps(((2,), ((5, 1),)))], [3, 2])
        self.assertEqual([last_gap(((29, 30), ())), gaps(((29, 30), ()))], [811, 406])
        self.assertEqual([last_gap(((6, 10, 15), ())), gaps(((6, 10, 15), ()))], [29, 15])

    def test_two_coins(self):
        for one, other in itertools.combinations(range(2, 16), 2):
            if gcd(one, other) == 1:
                top = one * other - one - other
                table = paid(((one, other), ()))
                self.assertEqual(last_gap(((one, other), ())), top)
                self.assertEqual(gaps(((one, other), ())), (top + 1) // 2)
                for number in range(top + 1):
                    self.assertNotEqual(sign(table, number), sign(table, top - number))

    def test_by_name(self):
        self.by_name(leasts, (0, 10, 5), purse=((3, 5), ()))
        self.by_name(last_gap, 7, purse=((3, 5), ()))
        self.by_name(gaps, 4, purse=((3, 5), ()))


def plain_last_gap(free):
    """The greatest number that free coins without a common divisor do not pay; None if none."""
    numbers = plain_paid((free, ()), free[0] * free[-1] + 1)
    return max((n for n in range(free[0] * free[-1]) if n not in numbers), default=None)


class GreatestGap(Case):
    def test_example(self):
        self.assertEqual(greatest_gap(5), 11)
        self.assertEqual(plain_last_gap((4, 5)), 11)

    def test_all_purses_of_small_coins(self):
        for most in range(1, 9):
            found = [plain_last_gap(free) for many in range(1, 7)
                     for free in itertools.combinations(range(1, most + 1), many)
                     if gcd(*free) == 1]
            wanted = max((gap for gap in found if gap is not None), default=None)
            self.assert_same(greatest_gap(most), wanted)

    def test_all_pairs(self):
        best = None
        for most in range(1, 31):
            for other in range(1, most):
                if gcd(most, other) == 1:
                    gap = plain_last_gap((other, most))
                    best = gap if best is None or gap is not None and gap > best else best
            self.assert_same(self.quick(greatest_gap, most), best)

    def test_purses(self):
        for most in range(1, 31):
            purse = self.quick(gap_purse, most)
            if most <= 2:
                self.assertIsNone(purse)
                continue
            self.assertIsNone(purse_error(purse))
            self.assertEqual(purse[1], ())
            self.assertLessEqual(max(purse[0]), most)
            self.assertEqual(gcd(*purse[0]), 1)
            self.assertEqual(plain_last_gap(purse[0]), greatest_gap(most))
            self.assertEqual(last_gap(purse), greatest_gap(most))

    def test_ends(self):
        self.assertEqual([greatest_gap(most) for most in (1, 2, 3, 4, 30)],
                         [None, None, 1, 5, 811])

    def test_by_name(self):
        self.by_name(greatest_gap, 11, most=5)
        self.by_name(greatest_gap, None, most=2)
        self.assertEqual(gap_purse(most=5), gap_purse(5))


class OwnCoins(Case):
    def check(self, free):
        wanted = tuple(coin for coin in free
                       if coin not in plain_paid((tuple(c for c in free if c != coin), ()), coin + 1))
        self.assert_same(self.quick(own_coins, free), wanted)

    def test_small_coins(self):
        for many in (1, 2, 3, 4):
            for free in itertools.combinations(range(1, 13), many):
                self.check(free)

    def test_six_coins(self):
        picker = random.Random(11)
        for _ in range(100):
            free = tuple(sorted(picker.sample(range(1, 31), 6)))
            self.check(free)
            self.assertEqual(paid((own_coins(free), ())), paid((free, ())))

    def test_known(self):
        self.assertEqual(own_coins((1,)), (1,))
        self.assertEqual(own_coins((1, 2, 3, 4, 5, 30)), (1,))
        self.assertEqual(own_coins((6, 9, 20)), (6, 9, 20))
        self.assertEqual(own_coins((6, 9, 15, 20, 26)), (6, 9, 20))
        self.assertEqual(own_coins((3, 5, 7, 8)), (3, 5, 7))
        self.assertEqual(own_coins((25, 26, 27, 28, 29, 30)), (25, 26, 27, 28, 29, 30))
        self.assertEqual(own_coins((2, 4, 8, 16, 30)), (2,))

    def test_by_name(self):
        self.by_name(own_coins, (3, 5), free=(3, 5, 8))


COIN_TUPLES = (
    (1,), (2,), (30,), (1, 2), (1, 30), (1, 3, 4), (1, 5, 10, 25), (1, 7, 10), (3, 5), (4, 6),
    (29, 30), (1, 29, 30), (2, 29), (1, 2, 5, 10, 20, 30), (1, 6, 10, 15, 22, 30), (6, 10, 15),
    (1, 15, 25), (25, 26, 27, 28, 29, 30), (1, 4, 6, 9), (1, 2, 3, 7, 19, 23), (1, 11, 13, 29),
)


def plain_fewest(coins, many):
    """The least numbers of coins for all amounts below many, by all sums of one coin more."""
    found = {0: 0}
    front = [0]
    while front:
        after = []
        for amount in front:
            for coin in coins:
                if amount + coin < many and amount + coin not in found:
                    found[amount + coin] = found[amount] + 1
                    after.append(amount + coin)
        front = after
    return [found.get(amount) for amount in range(many)]


def plain_greedy(coins, amount):
    many = 0
    while amount:
        amount -= max(coin for coin in coins if coin <= amount)
        many += 1
    return many


def random_coins(many, with_one):
    picker = random.Random(12)
    rows = []
    for _ in range(many):
        coins = set(picker.sample(range(1, 31), picker.randint(1, 5)))
        rows.append(tuple(sorted(coins | {1} if with_one else coins)))
    return tuple(rows)


class Fewest(Case):
    def test_examples(self):
        self.assertEqual(fewest((1, 3, 4), 6), 2)

    def test_small_amounts(self):
        for coins in COIN_TUPLES + random_coins(20, False):
            wanted = plain_fewest(coins, 250)
            for amount in range(250):
                self.assert_same(fewest(coins, amount), wanted[amount])

    def test_amounts_about_the_square(self):
        for coins in COIN_TUPLES + random_coins(10, False):
            far = (coins[-1] - 1) ** 2
            wanted = plain_fewest(coins, far + 3 * coins[-1] + 3)
            turns = [far + k * coins[-1] + more for k in (1, 2, 3) for more in (-1, 0, 1, 2)]
            for amount in list(range(max(0, far - 35), far + 3)) + turns:
                self.assert_same(fewest(coins, amount), wanted[amount])

    def test_great_amounts(self):
        for coins in COIN_TUPLES + random_coins(10, False):
            top = coins[-1]
            start = (top - 1) ** 2 + 1
            wanted = plain_fewest(coins, start + top)
            for amount in (10 ** 18, 10 ** 18 - 1, 10 ** 18 - 11, 10 ** 12 + 5, 10 ** 4):
                rounds = (amount - start) // top
                near = wanted[amount - rounds * top]
                self.assert_same(self.quick(fewest, coins, amount),
                                 None if near is None else near + rounds)

    def test_by_name(self):
        self.by_name(fewest, 2, coins=(1, 3, 4), amount=6)
        self.by_name(fewest, None, coins=(3, 4), amount=5)


class Greedy(Case):
    def test_examples(self):
        self.assertEqual(greedy((1, 3, 4), 6), 3)
        self.assertEqual(greedy_error((1, 3, 4)), 6)
        self.assertEqual(greedy_right((1, 3, 4)), ("111", "1110"))

    def with_one(self):
        return tuple(c for c in COIN_TUPLES if 1 in c) + random_coins(25, True)

    def test_greedy(self):
        for coins in self.with_one():
            for amount in range(100):
                self.assert_same(greedy(coins, amount), plain_greedy(coins, amount))
            for amount in (10 ** 18, 10 ** 18 - 1, 10 ** 18 - 13):
                top = coins[-1]
                self.assert_same(self.quick(greedy, coins, amount),
                                 amount // top + plain_greedy(coins, amount % top))

    def test_greedy_right(self):
        for coins in self.with_one():
            top = coins[-1]
            head = max(0, (top - 1) ** 2 - top + 1)
            many = head + 3 * top
            needed = plain_fewest(coins, many)
            wanted = {n for n in range(many) if plain_greedy(coins, n) == needed[n]}
            found = self.quick(greedy_right, coins)
            self.assert_same(found, from_numbers(wanted, head, top))
            self.assertEqual(told(found, many), wanted)
            self.assertLessEqual(len(found[0]), head)
            self.assertEqual(top % len(found[1]), 0)
            wrong = [n for n in range(many) if n not in wanted]
            self.assert_same(self.quick(greedy_error, coins), wrong[0] if wrong else None)

    def test_greedy_error(self):
        for many in (0, 1, 2):
            for more in itertools.combinations(range(2, 31), many):
                coins = (1,) + more
                needed = plain_fewest(coins, sum(coins[-2:]))
                wrong = [n for n, least_many in enumerate(needed)
                         if plain_greedy(coins, n) != least_many]
                self.assert_same(greedy_error(coins), wrong[0] if wrong else None)

    def test_always_right(self):
        for coins in ((1,), (1, 2), (1, 30), (1, 2, 5, 10, 20), (1, 5, 10, 25), (1, 2, 4, 8, 16)):
            self.assertEqual(greedy_right(coins), ALL)
            self.assertIsNone(greedy_error(coins))

    def test_without_one(self):
        for coins in ((2,), (2, 3), (30,), (3, 5), (25, 26, 27, 28, 29, 30), (10, 11)):
            for kind in (NoOne, RoundError, ValueError):
                with self.assertRaises(kind):
                    greedy(coins, 6)
                with self.assertRaises(kind):
                    greedy(coins, 0)
                with self.assertRaises(kind):
                    greedy(coins=coins, amount=10 ** 18)
                with self.assertRaises(kind):
                    greedy_right(coins)
                with self.assertRaises(kind):
                    greedy_error(coins=coins)
        self.assertEqual(fewest((2, 3), 6), 2)

    def test_by_name(self):
        self.by_name(greedy, 3, coins=(1, 3, 4), amount=6)
        self.by_name(greedy_right, ("111", "1110"), coins=(1, 3, 4))
        self.by_name(greedy_error, 6, coins=(1, 3, 4))


if __name__ == "__main__":
    unittest.main()
