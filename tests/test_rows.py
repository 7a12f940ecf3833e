import itertools
import random
import unittest

from leastmakers.rows import longest_row, reads, round_of, rule_error, value_at, values
from leastmakers.tables import ALL, EMPTY
from reckoning import VALUES, Case, from_numbers, plain_least, told

FIB = (2, (1, 1), (0, 1))

# What is no number below a modulus, whatever this is.
NO_NUMBERS = (None, True, False, -1, 9, 10 ** 39, -10 ** 39, "", "0", "1", (), (0,), [], [0], {}, {0: 0})


def plain_row(rule, many):
    modulus, factors, begin = rule
    row = list(begin)
    for n in range(len(begin), many):
        row.append(sum(factors[k] * row[n - 1 - k] for k in range(len(factors))) % modulus)
    return tuple(row[:many])


def plain_round(rule):
    """The least t, then the least h, by the first neighbours that have been ahead."""
    modulus, factors, begin = rule
    many = len(factors)
    row = plain_row(rule, modulus ** many + 2 * many)
    places = {}
    for n in range(modulus ** many + 1):
        key = row[n:n + many]
        if key in places:
            return places[key], n - places[key]
        places[key] = n
    raise AssertionError("so many neighbours come again")


def random_rule(picker, modulus, many):
    return (modulus, tuple(picker.randrange(modulus) for _ in range(many)),
            tuple(picker.randrange(modulus) for _ in range(many)))


def random_rules(seed, times):
    picker = random.Random(seed)
    return [random_rule(picker, modulus, many) for _ in range(times)
            for modulus in range(2, 10) for many in range(1, 5) if modulus ** many <= 5000]


def small_rules():
    """All rules of one factor, and of two by small moduli."""
    rules = [(modulus, (factor,), (begin,)) for modulus in range(2, 10)
             for factor in range(modulus) for begin in range(modulus)]
    for modulus in (2, 3, 4):
        pairs = list(itertools.product(range(modulus), repeat=2))
        rules += [(modulus, factors, begin) for factors in pairs for begin in pairs]
    return rules


KNOWN_RULES = [
    FIB, (4, (2,), (1,)), (2, (0, 1, 1), (0, 0, 1)), (9, (3,), (1,)), (8, (2, 4, 6), (1, 3, 5)), (9, (1, 0), (4, 7)),
    (6, (2, 3), (1, 5)), (2, (0, 0, 0, 0), (1, 1, 1, 1)), (8, (7, 7, 7, 7), (0, 0, 0, 1)),
    (8, (1, 1, 1, 1), (7, 0, 3, 5)), (7, (0, 1, 1, 4), (0, 0, 0, 1)), (9, (1, 1, 1), (0, 0, 1)),
    (8, (0, 0, 0, 1), (1, 2, 3, 4)), (8, (0, 0, 0, 2), (1, 1, 1, 1)), (6, (3, 0, 2, 3), (1, 2, 3, 4)),
    (5, (0, 1, 1, 2), (0, 0, 0, 0)),
]
RULES = KNOWN_RULES + random_rules(111, 6)


class RuleError(Case):
    def check(self, value, word):
        self.check_value(rule_error, value, word)

    def test_rules(self):
        for rule in RULES + small_rules():
            self.check(rule, None)

    def test_rule(self):
        for value in VALUES + ((2, (1,)), (2, (1,), (1,), ()), [2, (1,), (1,)], {2: (1,)}, "211"):
            if not isinstance(value, tuple) or len(value) != 3:
                self.check(value, "rule")

    def test_modulus(self):
        for wrong in (None, True, False, 0, 1, -1, 10, 11, 10 ** 39, -10 ** 39, "", "2", (), (2,), [], [2], {}):
            for factors in ((1,), (), None, (9,), [1]):
                for begin in ((1,), (), None, (9,), [1]):
                    self.check((wrong, factors, begin), "modulus")

    def test_factors(self):
        for modulus in range(2, 10):
            for wrong in NO_NUMBERS + (modulus, modulus + 1):
                self.check((modulus, (wrong,), (0,)), "factors")
                self.check((modulus, (1, wrong), (0, 0)), "factors")
                self.check((modulus, (wrong, 1), None), "factors")
            for wrong in (None, True, 0, "", "01", [], [1], {}, {1: 1}, (), (1, 1, 1, 1, 1), ((1,),), (0,) * 100):
                self.check((modulus, wrong, (0,)), "factors")
                self.check((modulus, wrong, None), "factors")

    def test_how_many(self):
        for modulus in range(2, 10):
            for many in range(0, 7):
                fits = 1 <= many <= 4 and modulus ** many <= 5000
                word = None if fits else "factors"
                self.check((modulus, (modulus - 1,) * many, (0,) * many), word)
                self.check((modulus, (modulus - 1,) * many, (modulus,) * many), word or "begin")
        self.check((8, (1, 1, 1, 1), (0, 0, 0, 0)), None)
        self.check((9, (1, 1, 1), (0, 0, 0)), None)
        self.check((9, (1, 1, 1, 1), (0, 0, 0, 0)), "factors")
        self.check((9, (1, 1, 1, 1), (0, 0, 0)), "factors")

    def test_begin(self):
        for modulus in range(2, 10):
            for wrong in NO_NUMBERS + (modulus, modulus + 1):
                self.check((modulus, (1,), (wrong,)), "begin")
                self.check((modulus, (1, 0), (0, wrong)), "begin")
                self.check((modulus, (1, 0), (wrong, 0)), "begin")
            for wrong in (None, True, 0, "", "01", [], [0, 0], {}, {0: 0}, (), (0,), (0, 0, 0), ((0, 0),), (0,) * 100):
                self.check((modulus, (1, 0), wrong), "begin")

    def test_the_first_word_is_told(self):
        self.check((0, None, None), "modulus")
        self.check((2, None, None), "factors")
        self.check((2, (2,), (2,)), "factors")
        self.check((2, (1,), (2,)), "begin")
        self.check([0, None, None], "rule")

    def test_by_name(self):
        self.by_name(rule_error, None, value=FIB)
        self.by_name(rule_error, "begin", value=(2, (1, 1), (0, 2)))


class Values(Case):
    def test_examples(self):
        self.assertEqual(values(FIB, 7), (0, 1, 1, 0, 1, 1, 0))
        self.assertEqual(round_of(FIB), (0, 3))
        self.assertEqual(reads(FIB, 0), ("", "100"))
        self.assertEqual(value_at(FIB, 10 ** 18), 1)
        self.assertEqual(round_of((4, (2,), (1,))), (2, 1))
        self.assertEqual(values((4, (2,), (1,)), 6), (1, 2, 0, 0, 0, 0))

    def test_against_plain_rows(self):
        for rule in RULES + small_rules():
            wanted = plain_row(rule, 60)
            for many in (0, 1, 2, 3, 4, 5, 17, 60):
                self.assert_same(self.quick(values, rule, many), wanted[:many])

    def test_to_5000(self):
        for rule in KNOWN_RULES:
            for many in (4999, 5000):
                self.assert_same(self.quick(values, rule, many), plain_row(rule, many))

    def test_value_at(self):
        for rule in RULES + small_rules()[::7]:
            wanted = plain_row(rule, 40)
            for number in range(40):
                self.assert_same(value_at(rule, number), wanted[number])

    def test_value_at_far_numbers(self):
        picker = random.Random(112)
        for rule in RULES:
            head, turn = plain_round(rule)
            row = plain_row(rule, head + turn)
            numbers = [10 ** 18, 10 ** 18 - 1, picker.randint(5000, 10 ** 18), head, head + turn - 1,
                       head + turn, head + 2 * turn]
            for number in numbers:
                near = number if number < head else head + (number - head) % turn
                self.assert_same(self.quick(value_at, rule, number), row[near])

    def test_by_name(self):
        self.by_name(values, (0, 1, 1, 0, 1, 1, 0), rule=FIB, many=7)
        self.by_name(value_at, 1, rule=FIB, number=10 ** 18)


class RoundOf(Case):
    def test_against_plain_rows(self):
        for rule in RULES + small_rules():
            self.assert_same(self.quick(round_of, rule), plain_round(rule))

    def test_number_by_number(self):
        for rule in KNOWN_RULES + small_rules()[::11]:
            head, turn = round_of(rule)
            row = plain_row(rule, head + 3 * turn + 10)
            unlike = [n for n in range(len(row) - turn) if row[n] != row[n + turn]]
            self.assertEqual(unlike[-1] + 1 if unlike else 0, head)
            for less in range(1, turn):
                self.assertTrue(any(row[n] != row[n + less] for n in range(head, head + 2 * turn)))

    def test_guarantees(self):
        for rule in RULES:
            modulus, factors, begin = rule
            head, turn = round_of(rule)
            self.assertLessEqual(head + turn, modulus ** len(factors))
            if all(modulus % k or factors[-1] % k for k in range(2, 10)):
                self.assertEqual(head, 0)
            other = random.Random(113).choices(range(modulus), k=len(factors))
            summed = tuple((one + two) % modulus for one, two in zip(begin, other))
            rows = [values((modulus, factors, one), 40) for one in (begin, tuple(other), summed)]
            for one, two, both in zip(*rows):
                self.assertEqual((one + two) % modulus, both)

    def test_noughts(self):
        for modulus, factors, most in ((4, (2,), 2), (8, (2, 4, 6), 9), (9, (3,), 2), (6, (0,), 1),
                                       (2, (0, 0, 0, 0), 4), (8, (0, 0, 0, 2), 12)):
            begin = (1,) * len(factors)
            head, turn = round_of((modulus, factors, begin))
            self.assertEqual(turn, 1)
            self.assertLessEqual(head, most)
            self.assertEqual(value_at((modulus, factors, begin), most), 0)

    def test_known(self):
        self.assert_same(round_of((5, (0, 1, 1, 2), (0, 0, 0, 0))), (0, 1))
        self.assert_same(round_of((2, (0, 0, 0, 0), (0, 0, 0, 1))), (4, 1))
        self.assert_same(round_of((8, (0, 0, 0, 1), (1, 2, 3, 4))), (0, 4))
        self.assert_same(round_of((9, (1, 0), (4, 7))), (1, 1))

    def test_by_name(self):
        self.by_name(round_of, (0, 3), rule=FIB)


class Reads(Case):
    def test_against_plain_rows(self):
        for rule in RULES + small_rules()[::5]:
            modulus = rule[0]
            head, turn = plain_round(rule)
            row = plain_row(rule, head + turn)
            for value in range(modulus):
                found = self.quick(reads, rule, value)
                self.assertLessEqual(len(found[0]), head)
                self.assertEqual(turn % len(found[1]), 0)
                if head + turn < 200:
                    wanted = {n for n in range(head + turn) if row[n] == value}
                    self.assert_same(found, from_numbers(wanted, head, turn))

    def test_number_by_number(self):
        for rule in KNOWN_RULES:
            row = plain_row(rule, 6000)
            for value in range(rule[0]):
                found = reads(rule, value)
                self.assertEqual(told(found, 6000), {n for n in range(6000) if row[n] == value})
                if sum(map(len, found)) < 300:
                    self.assertEqual(found, plain_least(found))

    def test_known(self):
        self.assert_same(reads((5, (0, 1, 1, 2), (0, 0, 0, 0)), 0), ALL)
        self.assert_same(reads((5, (0, 1, 1, 2), (0, 0, 0, 0)), 3), EMPTY)
        self.assert_same(reads((4, (2,), (1,)), 0), ("00", "1"))
        self.assert_same(reads((4, (2,), (1,)), 2), ("01", "0"))
        self.assert_same(reads((4, (2,), (1,)), 3), EMPTY)

    def test_by_name(self):
        self.by_name(reads, ("", "100"), rule=FIB, value=0)


class LongestRow(Case):
    def test_all(self):
        for prime in (2, 3, 5, 7):
            for order in (1, 2, 3, 4):
                size, rule = self.quick(longest_row, prime, order)
                self.assert_same(size, prime ** order - 1)
                self.assertIsNone(rule_error(rule))
                self.assertEqual((rule[0], len(rule[1])), (prime, order))
                self.assertTrue(any(rule[2]))
                self.assertEqual(plain_round(rule), (0, size))
                self.assertEqual(round_of(rule), (0, size))
                self.check_neighbours(prime, order, rule)

    def check_neighbours(self, prime, order, rule):
        size = prime ** order - 1
        row = plain_row(rule, 2 * size + order)
        found = {row[n:n + order] for n in range(size)}
        self.assertEqual(len(found), size)
        self.assertNotIn((0,) * order, found)
        for start in (0, size // 3, size - 1):
            part = row[start:start + size]
            self.assertEqual(part.count(0), prime ** (order - 1) - 1)
            for value in range(1, prime):
                self.assertEqual(part.count(value), prime ** (order - 1))

    def test_no_rule_goes_beyond(self):
        for prime, order in ((2, 1), (2, 2), (2, 3), (2, 4), (3, 1), (3, 2), (5, 1), (5, 2), (7, 1)):
            longest = max(round_of((prime, factors, begin))[1]
                          for factors in itertools.product(range(prime), repeat=order)
                          for begin in itertools.product(range(prime), repeat=order))
            self.assertEqual(longest, longest_row(prime, order)[0])

    def test_by_name(self):
        self.by_name(longest_row, longest_row(2, 3), prime=2, order=3)


if __name__ == "__main__":
    unittest.main()
