import random
import unittest
from math import gcd

from leastmakers.counts import below, is_endless, kth, last, next_from, share, widest
from leastmakers.joins import star
from leastmakers.tables import ALL, EMPTY, just
from reckoning import Case, least_tables, longer, plain_least, prime_turn, sign, small_tables, told

LONG = (
    ("01" * 2500, prime_turn(4999)), ("1" * 5000, "0" * 4999 + "1"), ("0" * 5000, "1"),
    ("", "110" * 1000 + "0"), ("0110" * 1250, "0"), ("", "0" * 2500 + "1" * 2500),
    ("1" + "0" * 4999, "00" * 2500), ("0" * 4999 + "1", "0"), ("1" * 4999, "1" * 4999 + "0"),
)

FAR = (10 ** 18, 10 ** 18 - 1, 10 ** 18 - 4999, 10 ** 15, 10 ** 9 + 7)


def plain_below(table, number):
    """How many are told below a number, also a great one: by whole turns and what is left."""
    head, turn = table
    if number <= len(head):
        return sum(sign(table, n) == "1" for n in range(number))
    rounds = (number - len(head)) // len(turn)
    rest = number - len(head) - rounds * len(turn)
    count = sum(letter == "1" for letter in head)
    count += rounds * sum(letter == "1" for letter in turn)
    return count + sum(turn[place] == "1" for place in range(rest))


def plain_widest(numbers):
    numbers = sorted(numbers)
    pairs = [(high - low, -low) for low, high in zip(numbers, numbers[1:])]
    return (max(pairs)[0], -max(pairs)[1]) if pairs else None


class Examples(Case):
    def test_of_the_document(self):
        x = star(just((3, 5)))
        self.assertEqual(below(x, 8), 4)
        self.assertEqual(kth(x, 4), 8)
        self.assertEqual(kth(x, 10 ** 18), 10 ** 18 + 4)
        self.assertEqual(share(x), (1, 1))
        self.assertEqual(widest(x), (3, 0))
        self.assertIsNone(widest(just((4,))))

    def test_by_name(self):
        table = ("01", "001")
        self.by_name(below, 2, table=table, number=5)
        self.by_name(kth, 4, table=table, place=1)
        self.by_name(next_from, 4, table=table, number=2)
        self.by_name(last, None, table=table)
        self.by_name(last, 1, table=("01", "00"))
        self.by_name(is_endless, True, table=table)
        self.by_name(share, (1, 3), table=table)
        self.by_name(widest, (3, 1), table=table)


class Places(Case):
    def test_small_tables(self):
        for table in small_tables(3, 4):
            numbers = sorted(told(table, 60))
            for number in range(40):
                count = len([n for n in numbers if n < number])
                self.assert_same(below(table, number), count)
                after = [n for n in numbers if n >= number]
                self.assert_same(next_from(table, number), after[0] if after else None)
            for place in range(9):
                wanted = numbers[place] if place < len(numbers) else None
                self.assert_same(kth(table, place), wanted)

    def test_far_numbers(self):
        forms = [longer(table, more, 2) for table in least_tables(2, 4) for more in (0, 3)]
        for table in list(LONG) + forms:
            for number in FAR + (0, 1, 4998, 4999, 5000, 5001, 9998, 9999, 10000, 10001):
                count = self.quick(below, table, number)
                self.assert_same(count, plain_below(table, number))
                after = self.quick(next_from, table, number)
                self.check_next(table, number, after)

    def check_next(self, table, number, after):
        if after is None:
            self.assertNotIn("1", table[1])
            self.assertNotIn("1", table[0][number:])
            return
        self.assertGreaterEqual(after, number)
        self.assertEqual(sign(table, after), "1")
        self.assertEqual(plain_below(table, after), plain_below(table, number))

    def test_far_places(self):
        for table in LONG:
            total = plain_below(table, 10000)
            for place in FAR + (0, 1, 2, 2499, 2500, 2501, 4999, 5000, 5001, total - 1, total):
                if place < 0:
                    continue
                number = self.quick(kth, table, place)
                if number is None:
                    self.assertNotIn("1", table[1])
                    self.assertGreaterEqual(place, total)
                else:
                    self.assertEqual(sign(table, number), "1")
                    self.assertEqual(plain_below(table, number), place)

    def test_finite_and_empty(self):
        for table in (EMPTY, ("", "000"), ("00", "0"), ("0" * 5000, "0" * 5000)):
            for number in (0, 1, 4999, 5000, 10 ** 18):
                self.assert_same(below(table, number), 0)
                self.assertIsNone(kth(table, number))
                self.assertIsNone(next_from(table, number))
        table = ("0101", "00")
        self.assertEqual([kth(table, k) for k in (0, 1, 2, 10 ** 18)], [1, 3, None, None])
        self.assertEqual([next_from(table, n) for n in (0, 1, 2, 3, 4, 10 ** 18)],
                         [1, 1, 3, 3, None, None])
        self.assertEqual([below(table, n) for n in (0, 1, 2, 3, 4, 10 ** 18)], [0, 0, 1, 1, 2, 2])

    def test_guarantees(self):
        for table in small_tables(3, 3) + list(LONG):
            for k in (0, 1, 2, 3, 7, 10 ** 18):
                number = kth(table, k)
                if number is not None:
                    self.assertEqual(below(table, number), k)
                self.assertEqual(kth(table, below(table, k)), next_from(table, k))


class Ends(Case):
    def test_small_tables(self):
        for table in small_tables(4, 3):
            numbers = told(table, 40)
            endless = "1" in table[1]
            self.assert_same(is_endless(table), endless)
            self.assert_same(last(table), None if endless else max(numbers, default=None))

    def test_long_tables(self):
        self.assert_same(self.quick(last, ("0" * 4999 + "1", "0")), 4999)
        self.assert_same(self.quick(last, ("1" + "0" * 4999, "00" * 2500)), 0)
        self.assertIsNone(self.quick(last, ("1" * 5000, prime_turn(5000))))
        self.assertIs(self.quick(is_endless, ("0" * 5000, "0" * 4999 + "1")), True)
        self.assertIs(self.quick(is_endless, ("1" * 5000, "0" * 5000)), False)
        self.assertIsNone(last(EMPTY))
        self.assertIsNone(last(ALL))


class Share(Case):
    def test_small_tables(self):
        for table in small_tables(2, 6):
            turn = plain_least(table)[1]
            many = turn.count("1")
            divisor = gcd(many, len(turn))
            self.assert_same(share(table), (many // divisor, len(turn) // divisor))

    def test_known_shares(self):
        self.assertEqual(share(EMPTY), (0, 1))
        self.assertEqual(share(("111", "0000")), (0, 1))
        self.assertEqual(share(ALL), (1, 1))
        self.assertEqual(share(("0", "11")), (1, 1))
        self.assertEqual(share(("", "110011")), (2, 3))
        self.assertEqual(share(("1" * 9, "1100")), (1, 2))
        self.assertEqual(self.quick(share, ("1" * 5000, prime_turn(5000))), (1, 5000))
        self.assertEqual(self.quick(share, ("", "1" * 4999 + "0")), (4999, 5000))
        self.assertEqual(self.quick(share, ("", "0" * 2000 + "1" * 3000)), (3, 5))


class Widest(Case):
    def test_small_tables(self):
        for table in small_tables(4, 4):
            # Each pair of neighbours has been once ahead of 4 + 2 * 4.
            numbers = told(table, 40)
            self.assert_same(widest(table), plain_widest(numbers))

    def test_longer_forms(self):
        for table in least_tables(3, 4):
            for more, times in ((0, 2), (1, 1), (5, 3)):
                self.assertEqual(widest(longer(table, more, times)), widest(table))

    def test_where_the_widest_gap_is(self):
        # In the head, over its end, within the turn, over the end of the turn.
        self.assertEqual(widest(("1000010", "100")), (5, 0))
        self.assertEqual(widest(("10100", "00010")), (6, 2))
        self.assertEqual(widest(("1", "110001")), (4, 2))
        self.assertEqual(widest(("1", "010100")), (4, 4))
        self.assertEqual(widest(("", "0010")), (4, 2))
        # The first one of several with the same difference.
        self.assertEqual(widest(("10010", "010010")), (3, 0))
        self.assertEqual(widest(("0101", "01")), (2, 1))

    def test_few_numbers(self):
        self.assertIsNone(widest(EMPTY))
        self.assertIsNone(widest(("00", "000")))
        self.assertIsNone(widest(just((0,))))
        self.assertIsNone(widest(just((4999,))))
        self.assertEqual(widest(just((0, 4999))), (4999, 0))
        self.assertEqual(widest(just((3, 4))), (1, 3))
        self.assertEqual(widest(just((1, 3, 5))), (2, 1))
        self.assertEqual(widest(ALL), (1, 0))

    def test_long_tables(self):
        self.assertEqual(self.quick(widest, ("1" + "0" * 4999, "0" * 4999 + "1")), (9999, 0))
        self.assertEqual(self.quick(widest, ("1" * 5000, "0" * 4999 + "1")), (5000, 4999))
        self.assertEqual(self.quick(widest, ("", prime_turn(5000))), (5000, 0))
        self.assertEqual(self.quick(widest, ("0" * 5000, "01" * 2500)), (2, 5001))
        picker = random.Random(4)
        for _ in range(20):
            table = ("".join(picker.choice("0001") for _ in range(300)),
                     "".join(picker.choice("00001") for _ in range(200)) + "1")
            self.assertEqual(widest(table), plain_widest(told(table, 1500)))


if __name__ == "__main__":
    unittest.main()
