import random
import unittest
from math import lcm

from booksforms import (
    B, C, KNOWN_BOOKS, TOO_GREAT, is_too_great, plain_made, plain_uses_hold, random_book,
    random_books)
from leastmakers.bookpapers import bar, bars, is_closed, uses, uses_hold
from leastmakers.books import derived
from leastmakers.errors import RoundError, TooGreat
from leastmakers.tables import ALL, EMPTY
from reckoning import VALUES, Case, least_tables, longer, plain_least, prime_turn, sign, told

CLOSED_C = (("", "010"), ("", "001"))
NO_ROWS = (None, True, 5, "", "01", (), [], {}, (("", "1"),) * 4, [("", "1")], (["", "1"],), ("", "1"),
           (("", ""),), (("", "2"),), ((0, 1),), (("", "1", "1"),), ((("", "1"),),), (None,), (("1",),))


def plain_is_closed(book, value):
    """Whether value is a closed row, by all sums of told numbers that count."""
    many, rules = book
    if type(value) is not tuple or len(value) != many:
        return False
    for table in value:
        if type(table) is not tuple or len(table) != 2 or not all(type(s) is str for s in table):
            return False
        if set(table[0] + table[1]) - {"0", "1"} or not table[1] or max(map(len, table)) > 5000:
            return False
    turn = lcm(*[len(table[1]) for table in value])
    if turn > 5000:
        return False
    limit = 2 * (max(len(table[0]) for table in value) + turn)
    numbers = [told(table, limit) for table in value]
    for name, letters, names in rules:
        sums = {letters}
        for part in names:
            sums = {n + more for n in sums for more in numbers[part]}
        if any(sign(value[name], n) == "0" for n in sums):
            return False
    return True


def picks(picker, times):
    """Numbers that are small, greater and great."""
    return (list(range(22)) + [picker.randint(22, 3000) for _ in range(times)] +
            [10 ** 18 - picker.randint(0, 400) for _ in range(times)] + [10 ** 18])


class Uses(Case):
    def check(self, book, name, number, is_made):
        found = self.quick(uses, book, name, number)
        if not is_made:
            self.assertIsNone(found, (book, name, number))
            return
        self.assertTrue(plain_uses_hold(book, name, number, found), (book, name, number, found))
        self.assert_same(uses_hold(book, name, number, found), True)

    def test_examples(self):
        self.assertEqual(uses(B, 0, 9), (3, 2))
        self.assertEqual(uses(B, 0, 10 ** 18 + 1), (25 * 10 ** 16 + 1, 25 * 10 ** 16))
        self.assertIs(uses_hold(B, 0, 3, (0, 1)), False)

    def test_small_numbers(self):
        for book in KNOWN_BOOKS + random_books(61, 150):
            made = plain_made(book, 90)
            for name in range(book[0]):
                for number in list(range(50)) + list(range(50, 90, 7)):
                    self.check(book, name, number, number in made[name])

    def test_great_numbers(self):
        picker = random.Random(62)
        for book in KNOWN_BOOKS + random_books(63, 200):
            tables = derived(book)
            for name in range(book[0]):
                for number in picks(picker, 4)[22:]:
                    self.check(book, name, number, sign(tables[name], number) == "1")

    def test_each_remainder_of_a_great_number(self):
        for book in KNOWN_BOOKS:
            tables = derived(book)
            for name in range(book[0]):
                for number in range(10 ** 18 - 40, 10 ** 18 + 1):
                    self.check(book, name, number, sign(tables[name], number) == "1")

    def test_names_that_make_nothing(self):
        for book in ((1, ()), (2, ((0, 3, (1,)), (1, 0, (0, 1)))), (3, ((0, 1, (0, 1)), (1, 0, ())))):
            for number in (0, 1, 3, 50, 10 ** 18):
                self.check(book, 0, number, False)
        # Name 1 makes nothing and name 2 can't be come to.
        book = (3, ((0, 0, ()), (0, 1, (1,)), (0, 2, (0,)), (1, 1, (1, 2)), (2, 1, ()), (2, 1, (2,))))
        self.check(book, 0, 10 ** 18, True)
        self.check(book, 0, 10 ** 18 - 1, False)
        self.check(book, 1, 10 ** 18, False)
        self.check(book, 2, 10 ** 18, True)

    def test_rounds_only_beside(self):
        # Only name 1 can go round; of name 2 the rounds are of the number 0.
        book = (3, ((0, 2, (1, 2)), (1, 0, ()), (1, 2, (1,)), (2, 0, (2,)), (2, 1, ())))
        for number in (2, 3, 4, 5, 10 ** 18, 10 ** 18 - 1):
            self.check(book, 0, number, number >= 3 and number % 2 == 1)
        self.check(book, 2, 1, True)
        self.check(book, 2, 10 ** 18, False)

    def test_at_the_bounds(self):
        picker = random.Random(64)
        for _ in range(12):
            rules = set()
            while len(rules) < 10:
                size = picker.choice((0, 2, 2))
                names = tuple(sorted(picker.randrange(3) for _ in range(size)))
                rules.add((picker.randrange(3), picker.randint(1, 2), names))
            book = (3, tuple(sorted(rules)))
            tables = derived(book)
            for number in (10 ** 18, 10 ** 18 - 1, 3000, 200, 15):
                for name in range(3):
                    self.check(book, name, number, sign(tables[name], number) == "1")

    def test_too_great(self):
        picker = random.Random(65)
        books = [TOO_GREAT, (3, ((0, 0, (0, 0)), (1, 3, ()))), (3, ((2, 6, (2, 2)),))]
        books += [random_book(picker, 3, 6, True, 8) for _ in range(60)]
        for book in books:
            for name in range(3):
                for number in (0, 3, 10 ** 18):
                    if is_too_great(book):
                        for kind in (TooGreat, RoundError, ValueError):
                            with self.assertRaises(kind):
                                uses(book, name, number)
                            with self.assertRaises(kind):
                                bar(book, name, number)
                    else:
                        self.assertEqual(uses(book, name, number) is None,
                                         bar(book, name, number) is not None)

    def test_by_name(self):
        self.by_name(uses, (3, 2), book=B, name=0, number=9)
        self.by_name(uses, None, book=B, name=0, number=8)
        self.by_name(uses_hold, True, book=B, name=0, number=9, value=(3, 2))
        self.by_name(uses_hold, False, book=B, name=0, number=9, value=(2, 3))


class UsesHold(Case):
    def check(self, book, name, number, value):
        wanted = plain_uses_hold(book, name, number, value)
        self.check_holds(uses_hold, wanted, book, name, number, value)
        return wanted

    def test_other_values(self):
        for value in VALUES + ([3, 2], (3,), (3, 2, 0), "32", {3: 2}, ((3, 2),), (3, "2"), (3, None),
                               (3, (2,)), ("3", "2"), (-3, 2), (3, -2), (10 ** 39, 10 ** 39)):
            self.assertFalse(self.check(B, 0, 9, value))
        self.assertTrue(self.check(B, 0, 9, (3, 2)))

    def test_truths(self):
        self.assertTrue(self.check(B, 0, 1, (1, 0)))
        for value in ((True, 0), (1, False), (True, False)):
            self.assertFalse(self.check(B, 0, 1, value))
        self.assertTrue(self.check((1, ((0, 0, ()),)), 0, 0, (1,)))
        self.assertFalse(self.check((1, ((0, 0, ()),)), 0, 0, (True,)))
        self.assertFalse(self.check((1, ()), 0, 0, ()))

    def test_wrong_in_one_number(self):
        picker = random.Random(66)
        found = {True: 0, False: 0}
        for book in KNOWN_BOOKS + random_books(67, 60):
            for name in range(book[0]):
                for number in (0, 1, 2, 7, 13, 40, picker.randint(41, 900), 10 ** 18, 10 ** 18 - 3):
                    value = uses(book, name, number)
                    if value is None:
                        continue
                    self.assertTrue(self.check(book, name, number, value))
                    self.assertFalse(self.check(book, name, number, value + (0,)))
                    self.assertFalse(self.check(book, name, number, value[:-1]))
                    self.assertFalse(self.check(book, name, number, list(value)))
                    for other in range(book[0]):
                        self.check(book, other, number, value)
                    for place, used in enumerate(value):
                        for new in (used + 1, used - 1, 0, used + number, None, str(used)):
                            changed = value[:place] + (new,) + value[place + 1:]
                            found[self.check(book, name, number, changed)] += 1
        self.assertGreater(min(found.values()), 20)

    def test_names_that_can_not_be_come_to(self):
        # Name 1 keeps itself in balance, but no used rule leads to it.
        book = (2, ((0, 1, ()), (0, 1, (1,)), (1, 0, ()), (1, 2, (1,))))
        self.assertFalse(self.check(book, 0, 3, (1, 0, 0, 1)))
        self.assertTrue(self.check(book, 0, 3, (0, 1, 1, 1)))
        self.assertFalse(self.check(book, 1, 3, (0, 1, 1, 1)))
        self.assertTrue(self.check(book, 1, 2, (0, 0, 1, 1)))
        self.assertFalse(self.check(book, 1, 3, (1, 0, 1, 1)))
        # Three names that lead to each other in a ring, beside the one that is asked.
        book = (3, ((0, 1, ()), (1, 1, (2,)), (2, 1, (1,))))
        self.assertFalse(self.check(book, 0, 3, (1, 1, 1)))
        self.assertTrue(self.check(book, 0, 1, (1, 0, 0)))

    def test_balance(self):
        self.assertFalse(self.check(B, 0, 3, (0, 1)))
        self.assertFalse(self.check(B, 0, 4, (1, 1)))
        self.assertTrue(self.check(B, 0, 5, (2, 1)))
        self.assertFalse(self.check(B, 0, 2, (2, 0)))
        self.assertFalse(self.check(B, 0, 0, (0, 0)))
        self.assertTrue(self.check(C, 0, 4, (1, 2, 0)))
        self.assertFalse(self.check(C, 1, 4, (1, 2, 0)))
        self.assertFalse(self.check(C, 0, 4, (1, 1, 0)))
        # Two names of one rule count twice.
        book = (2, ((0, 0, (1, 1)), (1, 3, ())))
        self.assertTrue(self.check(book, 0, 6, (1, 2)))
        self.assertFalse(self.check(book, 0, 3, (1, 1)))

    def test_never_too_great(self):
        self.assertTrue(self.check(TOO_GREAT, 0, 3, (1, 1, 1)))
        self.assertFalse(self.check(TOO_GREAT, 0, 3, (1, 1, 2)))
        self.assertFalse(self.check(TOO_GREAT, 1, 3, (1, 1, 1)))
        self.assertTrue(self.check(TOO_GREAT, 1, 0, (0, 1, 0)))


class IsClosed(Case):
    def check(self, book, value):
        wanted = plain_is_closed(book, value)
        self.check_holds(is_closed, wanted, book, value)
        return wanted

    def test_examples(self):
        self.assertTrue(self.check(C, CLOSED_C))
        self.assertIs(bars(C, 0, 6, CLOSED_C), True)
        self.assertIs(bars(C, 0, 1, CLOSED_C), False)

    def test_derived_in_many_forms(self):
        picker = random.Random(68)
        for book in KNOWN_BOOKS + random_books(69, 80):
            value = derived(book)
            self.assertIs(is_closed(book, value), True)
            if max(len(head) + len(turn) for head, turn in value) > 25:
                continue
            self.assertTrue(self.check(book, value))
            other = tuple(longer(table, picker.randint(0, 9), picker.randint(1, 2)) for table in value)
            self.assertTrue(self.check(book, other))
            self.assertFalse(self.check(book, list(value)))
            self.assertFalse(self.check(book, value + (ALL,)))
            self.assertFalse(self.check(book, value[:-1]))

    def test_one_sign_turned(self):
        for book in KNOWN_BOOKS + random_books(70, 40):
            value = derived(book)
            if max(len(head) + len(turn) for head, turn in value) > 16:
                continue
            for place, table in enumerate(value):
                head, turn = longer(table, 3, 2)
                for at in range(len(head + turn)):
                    text = head + turn
                    text = text[:at] + ("0" if text[at] == "1" else "1") + text[at + 1:]
                    changed = (text[:len(head)], text[len(head):])
                    self.check(book, value[:place] + (changed,) + value[place + 1:])

    def test_all_and_empty(self):
        for book in KNOWN_BOOKS + random_books(71, 60):
            self.assertTrue(self.check(book, (ALL,) * book[0]))
            self.check(book, (EMPTY,) * book[0])
        self.assertTrue(self.check((1, ()), (EMPTY,)))
        self.assertFalse(self.check((1, ((0, 0, ()),)), (EMPTY,)))
        self.assertTrue(self.check((1, ((0, 0, (0,)),)), (EMPTY,)))
        self.assertTrue(self.check(TOO_GREAT, (ALL,) * 3))
        self.assertFalse(self.check(TOO_GREAT, (EMPTY,) * 3))
        self.assertTrue(self.check(TOO_GREAT, (("0001", "0"), ("1", "0"), ("1", "0"))))
        self.assertFalse(self.check(TOO_GREAT, (("0010", "0"), ("1", "0"), ("1", "0"))))

    def test_small_tables(self):
        tables = least_tables(2, 3)
        books = [book for book in KNOWN_BOOKS + random_books(72, 30) if book[0] == 1]
        found = {True: 0, False: 0}
        for book in books:
            for table in tables:
                found[self.check(book, (table,))] += 1
        picker = random.Random(73)
        for book in [book for book in KNOWN_BOOKS + random_books(74, 60) if book[0] > 1]:
            for _ in range(12):
                found[self.check(book, tuple(picker.choice(tables) for _ in range(book[0])))] += 1
        self.assertGreater(min(found.values()), 50)

    def test_sums_that_fail_late(self):
        book = (1, ((0, 1, (0, 0)),))
        # Told are 10 to 30; their sums and one more are told up to each number but one.
        text = "".join("1" if 10 <= n <= 20 or 21 <= n <= 41 else "0" for n in range(42)) + "1" * 60
        for wrong in range(42, 90):
            table = (text[:wrong] + "0" + text[wrong + 1:], "1")
            self.check(book, (table,))
        self.assertTrue(self.check(book, ((text, "1"),)))
        self.assertFalse(self.check(book, ((text, "1" * 9 + "0"),)))
        book = (2, ((0, 0, (1, 1)), (1, 0, ())))
        self.assertTrue(self.check(book, (("", "10"), ("", "10"))))
        self.assertFalse(self.check(book, (("", "10"), ("", "1000001"))))
        self.assertFalse(self.check(book, (("", "10"), ("1" + "0" * 50, "10" * 3 + "0"))))

    def test_other_values(self):
        for book in (B, C, (3, ()), (1, ()), TOO_GREAT):
            for value in VALUES + NO_ROWS:
                self.check(book, value)
                self.check(book, (value,) * book[0])
                self.check(book, (value,) + (ALL,) * (book[0] - 1))
        self.assertFalse(self.check((1, ()), (("", "1" * 5001),)))
        self.assertFalse(self.check((1, ()), (("1" * 5001, "1"),)))
        self.assertFalse(self.check((2, ()), (ALL, ("", "1" * 5001))))
        self.assertFalse(self.check((2, ()), (ALL, ["", "1"])))

    def test_turns_as_they_stand(self):
        rules = ((0, 0, (1,)), (1, 2, (0,)))
        for one, other, fits in ((8, 625, True), (40, 625, True), (5000, 5000, True), (5000, 2500, True),
                                 (5000, 1, True), (8, 627, False), (5000, 3, False), (71, 71, True),
                                 (70, 71, True), (71, 72, False), (2, 2501, False), (2, 2499, True),
                                 (4999, 2, False)):
            for book in ((2, ()), (2, rules), (3, rules)):
                value = (("", "1" * one), ("", "1" * other), ("0", "1"))[:book[0]]
                self.assertIs(lcm(one, other) <= 5000, fits)
                self.assertIs(is_closed(book, value), fits)
                self.assertIs(bars(book, 0, 5, value), False)
        value = (("", prime_turn(16)), ("", prime_turn(125)), ("", "01"))
        self.assertIs(is_closed((3, ()), value), True)
        self.assertIs(is_closed((3, ()), value[:2] + (("", "011"),)), False)
        self.assertIs(bars((3, ()), 2, 10, value), True)
        self.assertIs(bars((3, ()), 2, 10, value[:2] + (("", "011"),)), False)

    def test_long_tables(self):
        rules = tuple(sorted((name, 2, names) for name in range(3)
                             for names in ((0, 0), (0, 1), (1, 1), (1, 2))))[:10]
        ones = ("1" * 5000, "1" * 5000)
        self.assertIs(self.quick(is_closed, (3, rules), (ones,) * 3), True)
        late = ("0" + "1" * 4999, "1" * 5000)
        self.assertIs(self.quick(is_closed, (3, rules), (late,) * 3), True)
        wrong = ("1" * 5000, "1" * 4999 + "0")
        self.assertIs(self.quick(is_closed, (3, rules), (ones, ones, wrong)), False)
        even = ("10" * 2500, "10" * 2500)
        self.assertIs(self.quick(is_closed, (3, rules), (even,) * 3), True)
        self.assertIs(self.quick(is_closed, (3, rules), (even, even, ones)), False)
        # The only sum that is not told is far out, of two told numbers that are far out.
        book = (2, ((0, 0, (1, 1)),))
        self.assertIs(is_closed(book, (("1" * 4999 + "0", "1"), ("0" * 2499 + "1" * 2501, "1"))), False)
        self.assertIs(is_closed(book, (("1" * 4999 + "0", "1"), ("0" * 2500 + "1" * 2500, "1"))), True)
        self.assertIs(is_closed(book, (("", "1" * 4999 + "0"), ("0" * 4999 + "1", "0"))), True)
        self.assertIs(is_closed(book, (("", "1" * 4998 + "00"), ("0" * 4999 + "1", "0"))), False)

    def test_by_name(self):
        self.by_name(is_closed, True, book=C, value=CLOSED_C)
        self.by_name(is_closed, False, book=C, value=list(CLOSED_C))


class Bar(Case):
    def check(self, book, tables, name, number):
        found = self.quick(bar, book, name, number)
        if sign(tables[name], number) == "1":
            self.assertIsNone(found)
            return
        self.assertEqual(len(found), book[0])
        self.assertEqual(sign(found[name], number), "0")
        self.assertIs(is_closed(book, found), True)
        self.assertIs(bars(book, name, number, found), True)
        if max(len(head) + len(turn) for head, turn in found) <= 25:
            self.assertTrue(plain_is_closed(book, found))

    def test_numbers(self):
        picker = random.Random(75)
        for book in KNOWN_BOOKS + random_books(76, 30):
            tables = derived(book)
            made = plain_made(book, 22)
            for name in range(book[0]):
                for number in picker.sample(range(22), 4):
                    self.check(book, tables, name, number)
                    self.assertEqual(bar(book, name, number) is None, number in made[name])
                for number in (10 ** 18, picker.randint(22, 3000)):
                    self.check(book, tables, name, number)

    def test_never_both(self):
        for book in KNOWN_BOOKS:
            for name in range(book[0]):
                for number in list(range(0, 30, 4)) + [10 ** 18 - 1, 10 ** 18]:
                    self.assertNotEqual(uses(book, name, number) is None, bar(book, name, number) is None)

    def test_by_name(self):
        self.by_name(bar, None, book=B, name=0, number=9)
        self.assertEqual(bar(number=8, name=0, book=B), bar(B, 0, 8))
        self.by_name(bars, True, book=C, name=0, number=6, value=CLOSED_C)
        self.by_name(bars, False, book=C, name=0, number=1, value=CLOSED_C)


class Bars(Case):
    def test_against_the_tables(self):
        picker = random.Random(77)
        tables = least_tables(2, 2)
        for book in KNOWN_BOOKS + random_books(78, 60):
            for _ in range(8):
                value = tuple(picker.choice(tables) for _ in range(book[0]))
                closed = plain_is_closed(book, value)
                for name in range(book[0]):
                    for number in (0, 1, 2, 3, 9, 10 ** 18):
                        wanted = closed and sign(value[name], number) == "0"
                        self.assert_same(bars(book, name, number, value), wanted)

    def test_no_number_that_is_made_is_barred(self):
        for book in KNOWN_BOOKS:
            for name, made in enumerate(plain_made(book, 40)):
                for value in (derived(book), (ALL,) * book[0], (EMPTY,) * book[0]):
                    for number in made:
                        self.assertIs(bars(book, name, number, value), False)

    def test_other_values(self):
        for value in VALUES + NO_ROWS + ([("", "01")],):
            self.assert_same(bars(B, 0, 8, value), False)
            self.assert_same(bars(TOO_GREAT, 0, 8, value), False)
        self.assert_same(bars(B, 0, 8, derived(B)), True)

    def test_never_too_great(self):
        value = (("0001", "0"), ("1", "0"), ("1", "0"))
        self.assert_same(bars(TOO_GREAT, 0, 4, value), True)
        self.assert_same(bars(TOO_GREAT, 0, 3, value), False)
        self.assert_same(bars(TOO_GREAT, 1, 10 ** 18, value), True)
        self.assertEqual(plain_least(value[0]), value[0])


if __name__ == "__main__":
    unittest.main()
