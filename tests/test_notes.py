import random
import unittest

from leastmakers.errors import RoundError, TooGreat
from leastmakers.notes import always, are_same, notes, often, parted_at
from leastmakers.sayings import truth
from leastmakers.tables import ALL, EMPTY, just, parting
from reckoning import Case, from_numbers, prime_turn
from sayingforms import (
    TABLES, S, U, cases, highest, in_order, one_in_another, other_forms, plain_truths, random_saying, size_of)

A = ("", "01")
B = ("0001", "0")
# Sayings in which one stands twice, also as a part of parts.
TWICE = [
    ("and", S, S), ("or", ("not", S), ("not", S)), ("till", S, ("till", S, S)),
    ("since", ("next", 2, S), ("next", 2, S)),
    ("and", ("or", S, U), ("or", S, U)), ("or", ("ahead", ("not", S)), ("not", S)),
]


def plain_table(saying, tables):
    """The least table, by a plain look at numbers."""
    head, turn = size_of(saying, tables)
    so = plain_truths(saying, tables, head + turn)
    return from_numbers({n for n, is_so in enumerate(so) if is_so}, head, turn)


def pairs_of(seed, times):
    """Two sayings each, over the same tables, some of them so of the same numbers."""
    picker = random.Random(seed)
    found = []
    for _ in range(times):
        over = picker.choice((1, 2, 3))
        one, other = (random_saying(picker, picker.randint(1, 3), over) for _ in range(2))
        tables = tuple(picker.choice(TABLES) for _ in range(over))
        found += [(one, other, tables), (one, one, tables), (one, ("not", ("not", one)), tables),
                  (one, ("not", one), tables), (("or", one, other), ("or", other, one), tables),
                  (one, ("and", one, ("some", one)), tables)]
    return found


class Notes(Case):
    def check(self, saying, tables):
        found = self.quick(notes, saying, tables)
        self.assertIs(type(found), tuple)
        parts = in_order(saying)
        self.assertEqual(len(found), len(parts))
        for part, table in zip(parts, found):
            self.assert_same(table, truth(part, tables))
        self.assert_same(found[-1], truth(saying, tables))
        return found

    def test_example(self):
        self.assert_same(notes(("not", ("told", 0, 0)), (A,)), (("", "01"), ("", "10")))

    def test_against_plain_look(self):
        for saying, tables in cases(321, 150):
            found = self.check(saying, tables)
            for part, table in zip(in_order(saying), found):
                self.assertEqual(table, plain_table(part, tables))

    def test_order(self):
        saying = ("till", ("and", ("told", 0, 0), ("told", 1, 0)), ("next", 1, ("told", 2, 0)))
        tables = (("", "01"), ("", "011"), just((3,)))
        found = self.check(saying, tables)
        self.assert_same(found[0], ("", "01"))
        self.assert_same(found[1], ("", "011"))
        self.assert_same(found[2], ("", "010001"))
        self.assert_same(found[3], just((3,)))
        self.assert_same(found[4], just((2,)))
        self.assert_same(found[5], just((1, 2)))
        self.assertEqual(len(found), 6)

    def test_a_saying_that_stands_twice(self):
        for saying in TWICE:
            for tables in ((A, B), (B, A), (ALL, EMPTY), (("0110", "01"), ("01", "100"))):
                found = self.check(saying, tables)
                self.assertEqual(found.count(truth(S, tables)) >= 2, True)

    def test_one_alone(self):
        for table in TABLES:
            self.assert_same(notes(S, (table,)), (table,))

    def test_words_one_in_another(self):
        for saying in one_in_another():
            self.check(saying, (("0110", "01"), ("00", "0001"))[:highest(saying) + 1])

    def test_tables_in_many_forms(self):
        picker = random.Random(322)
        for saying, tables in cases(323, 40):
            self.assert_same(notes(saying, other_forms(picker, tables)), notes(saying, tables))

    def test_by_name(self):
        self.by_name(notes, (("", "01"), ("", "10")), saying=("not", ("told", 0, 0)), tables=(A,))


class AlwaysAndOften(Case):
    def test_against_plain_look(self):
        for saying, tables in cases(324, 200):
            table = plain_table(saying, tables)
            self.assert_same(self.quick(always, saying, tables), table == ALL)
            self.assert_same(self.quick(often, saying, tables), "1" in table[1])

    def test_known(self):
        for table, is_always, is_often in (
                (ALL, True, True), (EMPTY, False, False), (A, False, True), (B, False, False),
                (("0", "1"), False, True),
                (("1", "0"), False, False), (("11", "11"), True, True)):
            self.assert_same(always(S, (table,)), is_always)
            self.assert_same(often(S, (table,)), is_often)
            self.assert_same(always(("or", S, ("not", S)), (table,)), True)
            self.assert_same(always(("and", S, ("not", S)), (table,)), False)
            self.assert_same(often(("and", S, ("not", S)), (table,)), False)
            self.assert_same(always(("some", S), (table,)), is_often)

    def test_by_name(self):
        self.by_name(always, False, saying=S, tables=(A,))
        self.by_name(often, True, saying=S, tables=(A,))


class SameAndParted(Case):
    def test_against_plain_look(self):
        alike = 0
        for one, other, tables in pairs_of(325, 80):
            wanted = plain_table(one, tables) == plain_table(other, tables)
            alike += wanted
            self.assert_same(self.quick(are_same, one, other, tables), wanted)
            self.assert_same(self.quick(parted_at, one, other, tables), self.plain_parted(one, other, tables))
            self.assert_same(parted_at(other, one, tables), parted_at(one, other, tables))
            self.assert_same(are_same(other, one, tables), wanted)
        self.assertGreater(alike, 100)

    def plain_parted(self, one, other, tables):
        head = max(size_of(one, tables)[0], size_of(other, tables)[0])
        many = head + 2 * size_of(one, tables)[1]
        both = zip(plain_truths(one, tables, many), plain_truths(other, tables, many))
        return next((n for n, (left, right) in enumerate(both) if left != right), None)

    def test_known(self):
        self.assert_same(parted_at(S, U, (A, B)), 1)
        self.assert_same(parted_at(S, U, (A, A)), None)
        self.assert_same(parted_at(S, ("not", S), (A,)), 0)
        self.assert_same(parted_at(("ahead", S), ("some", ("not", S)), (B,)), 0)
        self.assert_same(parted_at(("told", 0, 3), ("next", 3, S), (B,)), None)
        self.assert_same(are_same(("told", 0, 3), ("next", 3, S), (B,)), True)
        far = ("0" * 2000 + "1", "0")
        self.assert_same(parted_at(("some", S), ("or", S, ("not", S)), (far,)), 2001)

    def test_guarantees(self):
        picker = random.Random(326)
        for _ in range(60):
            one, other = random_saying(picker, 2, 3), random_saying(picker, 2, 3)
            tables = tuple(picker.choice(TABLES) for _ in range(3))
            till = ("till", one, other)
            for left, right in (
                    (("from", one), ("not", ("some", ("not", one)))),
                    (("some", one), ("till", ("or", one, ("not", one)), one)),
                    (till, ("or", other, ("and", one, ("next", 1, till)))),
                    (("next", 4, ("told", 2, 3)), ("told", 2, 7)),
                    (("next", 20, ("told", 0, 0)), ("told", 0, 20))):
                self.assert_same(are_same(left, right, tables), True)
                self.assert_same(parted_at(left, right, tables), None)

    def test_parted_is_parting_of_truths(self):
        for one, other, tables in pairs_of(327, 40):
            self.assert_same(parted_at(one, other, tables), parting(truth(one, tables), truth(other, tables)))

    def test_by_name(self):
        self.by_name(are_same, False, saying=S, other=U, tables=(A, B))
        self.by_name(parted_at, 1, saying=S, other=U, tables=(A, B))


class TooGreatOfBoth(Case):
    FULL = ("1" * 4999 + "0", "1")

    def test_of_the_saying(self):
        for function in (notes, always, often):
            self.quick(function, ("not", ("next", 3, ("from", S))), (self.FULL,))
            for saying in (("ahead", S), ("not", ("since", S, S))):
                self.assertRaises(TooGreat, function, saying, (self.FULL,))
            tables = (("", prime_turn(71)), ("", prime_turn(72)))
            for saying in (S, ("and", S, U), ("not", U)):
                self.assertRaises(TooGreat, function, saying, tables)
            self.quick(function, ("and", S, U), (("", prime_turn(71)), ("", prime_turn(70))))

    def test_bounds(self):
        for function in (notes, always, often):
            for head, fits in ((5000 - 14, True), (5000 - 13, False)):
                table = ("1" * (head - 1) + "0", prime_turn(7)[::-1])
                saying = ("since", ("ahead", S), S)
                if fits:
                    self.quick(function, saying, (table,))
                else:
                    self.assertRaises(TooGreat, function, saying, (table,))

    def test_of_both_sayings(self):
        # One alone and the other one alone are too great.
        for function in (are_same, parted_at):
            self.quick(function, S, ("not", S), (self.FULL,))
            self.assertRaises(TooGreat, function, ("ahead", S), S, (self.FULL,))
            self.assertRaises(TooGreat, function, S, ("ahead", S), (self.FULL,))
            self.assertRaises(RoundError, function, S, ("since", S, S), (self.FULL,))
            self.assertRaises(TooGreat, function, S, S, (("", prime_turn(71)), ("", prime_turn(72))))

    def test_at_the_bounds(self):
        table = ("1" * 1000 + "0", "0" * 1332 + "1")
        saying = ("since", ("till", S, ("not", S)), ("ahead", ("next", 20, ("some", S))))
        for function in (notes, always, often):
            self.quick(function, saying, (table,))
        for function in (are_same, parted_at):
            self.quick(function, saying, ("not", ("not", saying)), (table,))


if __name__ == "__main__":
    unittest.main()
