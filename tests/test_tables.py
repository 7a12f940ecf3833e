import random
import unittest
from math import gcd

from leastmakers.errors import RoundError, TooGreat
from leastmakers.tables import (
    ALL, EMPTY, each_step, escape, has, is_least, just, least, parting, same, signs,
    table_error, within)
from reckoning import (
    VALUES, Case, least_tables, longer, plain_least, prime_turn, row, sign, small_tables, told)

# Words that are no string of the signs 0 and 1.
NO_ROWS = ("2", "012", "01 ", " 01", "0\n", "0\t1", "o", "O", "l", "-1", "0.1", "0b1", "True",
           None, True, False, 0, 1, 10, (), ("0",), ["0"], ["0", "1"], {"0": "1"})


def late(one, other):
    """Turns of these lengths, without a common divisor, alike for one + other - 2 signs."""
    many = one + other - 2
    text = [None] * many
    # What is come to from place 0 by steps of both lengths is one of just two classes.
    waiting = [0]
    while waiting:
        place = waiting.pop()
        if text[place] is None:
            text[place] = "0"
            waiting += [n for n in (place + one, place - one, place + other, place - other)
                        if 0 <= n < many]
    text = "".join("1" if letter is None else letter for letter in text)
    return text[:one], text[:other]


class TableError(Case):
    def check(self, value, word):
        self.check_value(table_error, value, word)

    def test_tables(self):
        for table in small_tables(3, 3):
            self.check(table, None)

    def test_lengths(self):
        for head in (0, 1, 2, 4998, 4999, 5000):
            for turn in (1, 2, 4998, 4999, 5000):
                self.check(("0" * head, "1" * turn), None)
                self.check(("1" * head, "10" * (turn // 2) + "0" * (turn % 2)), None)

    def test_long(self):
        for many in (5001, 5002, 10000, 20000):
            self.check(("0" * many, "1"), "long")
            self.check(("", "1" * many), "long")
            self.check(("0" * 5000, "1" * many), "long")
            self.check(("0" * many, "1" * 5000), "long")
            self.check(("0" * many, "1" * many), "long")

    def test_pair(self):
        pairs = [value for value in VALUES if isinstance(value, tuple) and len(value) == 2]
        for value in VALUES:
            if value not in pairs:
                self.check(value, "pair")
        for value in (["", "0"], ("",), ("", "0", "1"), "01", {"": "0", "0": "1"}, (("", "0"),)):
            self.check(value, "pair")

    def test_head(self):
        for wrong in NO_ROWS + (VALUES[-1], VALUES[-2]):
            for turn in ("0", "01", "", "2", None, 5, "0" * 5001):
                self.check((wrong, turn), "head")

    def test_turn(self):
        for wrong in NO_ROWS + ("", VALUES[-1], VALUES[-2]):
            for head in ("", "0", "0110", "1" * 5000, "1" * 5001):
                self.check((head, wrong), "turn")

    def test_the_first_word_applies(self):
        self.check(("0" * 5001 + "2", "0"), "head")
        self.check(("0" * 20000, ""), "turn")
        self.check(("", "0" * 5001 + "2"), "turn")
        self.check(("2", ""), "head")
        self.check(("2", "0", "0"), "pair")
        self.check(["2", ""], "pair")

    def test_by_name(self):
        self.by_name(table_error, None, value=("", "0"))
        self.by_name(table_error, "turn", value=("", ""))


class Least(Case):
    def test_examples(self):
        self.assertEqual(least(("01", "0101")), ("", "01"))
        self.assertEqual(least(("1", "0")), ("1", "0"))
        self.assertEqual(least(("0", "11")), ("0", "1"))
        self.assertEqual(EMPTY, ("", "0"))
        self.assertEqual(ALL, ("", "1"))
        self.assertTrue(is_least(EMPTY) and is_least(ALL))

    def test_small_tables(self):
        for table in small_tables(4, 6):
            wanted = plain_least(table)
            self.assert_same(least(table), wanted)
            self.assert_same(is_least(table), wanted == table)

    def test_longer_forms_of_small_tables(self):
        for table in least_tables(3, 4):
            for more in (0, 1, 2, 3, 5, 8, 13):
                for times in (1, 2, 3, 6):
                    form = longer(table, more, times)
                    self.assertEqual(least(form), table)
                    self.assertIs(is_least(form), form == table)

    def test_no_head_and_turns_that_repeat_a_word(self):
        for word in ("0", "1", "01", "10", "001", "0110", "01101"):
            for times in range(1, 13):
                self.assertEqual(least(("", word * times)), ("", word))
                self.assertIs(is_least(("", word * times)), times == 1)

    def test_a_turn_that_almost_repeats(self):
        for many in range(2, 40):
            turn = "01" * many + "1"
            self.assertEqual(least(("", turn)), ("", turn))
            self.assertEqual(least(("", turn * 3)), ("", turn))
            self.assertEqual(least((turn[1:], turn)), ("", turn[1:] + turn[0]))

    def test_long_tables(self):
        picker = random.Random(1)
        for head, turn, times in ((0, 5000, 1), (0, 2500, 2), (5000, 5000, 1), (4000, 625, 8),
                                  (1, 4999, 1), (4999, 7, 714), (100, 1, 5000), (0, 1, 5000),
                                  (17, 1250, 4), (2500, 1000, 5), (2000, 1666, 3)):
            word = plain_turn(picker, turn)
            text = "".join(picker.choice("01") for _ in range(head - 1))
            table = (text + ("1" if word[-1] == "0" else "0") if head else "", word)
            self.assertEqual(self.quick(least, table), table)
            self.assertIs(self.quick(is_least, table), True)
            for more in (0, 1, 2, 6, turn - 1, turn, turn + 1, 5000 - head):
                form = longer(table, max(0, min(more, 5000 - head)), times)
                self.assertEqual(self.quick(least, form), table)
                self.assertIs(self.quick(is_least, form), form == table)

    def test_by_name(self):
        self.by_name(least, ("", "01"), table=("01", "0101"))
        self.by_name(is_least, False, table=("01", "0101"))


def plain_turn(picker, size):
    """A turn of so many signs that repeats no shorter word."""
    if size == 1:
        return picker.choice("01")
    # A run of noughts of more than half the turn does not stand in it twice.
    run = size // 2 + 1 if size > 2 else 1
    return "0" * run + "1" + "".join(picker.choice("01") for _ in range(size - run - 1))


class Signs(Case):
    def test_small_tables(self):
        for table in small_tables(3, 4):
            for number in range(30):
                self.assert_same(has(table, number), sign(table, number) == "1")
            for many in (0, 1, 2, 3, 4, 5, 7, 8, 11, 24, 25):
                self.assert_same(signs(table, many), row(table, many))

    def test_within_and_around_the_head(self):
        for head in (0, 1, 2, 7, 100, 4999, 5000):
            for turn in (1, 2, 3, 7, 4999, 5000):
                table = ("0" * (head - 1) + "1" if head else "", "0" * (turn - 1) + "1")
                for number in range(max(0, head - 3), head + 4):
                    self.assert_same(has(table, number), sign(table, number) == "1")
                for rounds in (1, 2, 3, 10 ** 6, 10 ** 14):
                    for number in range(head + rounds * turn - 2, head + rounds * turn + 3):
                        if number >= 0:
                            self.assert_same(has(table, number), sign(table, number) == "1")

    def test_great_numbers(self):
        for number in (10 ** 18, 10 ** 18 - 1, 10 ** 18 - 2, 10 ** 17 + 1, 10 ** 18 + 5):
            self.assertIs(has(("", "10"), number), number % 2 == 0)
            self.assertIs(has(("0", "100"), number), number % 3 == 1)
            self.assertIs(has(("1" * 5000, prime_turn(4999)), number), (number - 5000) % 4999 == 0)
            self.assertIs(has(("1" * 4999, prime_turn(5000)), number), (number - 4999) % 5000 == 0)
            self.assertIs(has(EMPTY, number), False)
            self.assertIs(has(ALL, number), True)

    def test_many(self):
        for table in (EMPTY, ALL, ("0110", "10"), ("01" * 2500, "0" * 4999 + "1"),
                      ("1" * 5000, "0" * 5000), ("0", "110" * 1000)):
            for many in (0, 1, 4999, 5000, 5001, 9999, 10000, 10001, 19999, 20000):
                self.assert_same(self.quick(signs, table, many), row(table, many))

    def test_forms_have_the_same_signs(self):
        for table in least_tables(2, 3):
            form = longer(table, 5, 3)
            self.assertEqual(signs(form, 60), signs(table, 60))
            for number in (0, 1, 5, 17, 10 ** 18):
                self.assertEqual(has(form, number), has(table, number))

    def test_by_name(self):
        self.by_name(has, True, table=("", "01"), number=3)
        self.by_name(signs, "010", table=("", "01"), many=3)


class Parting(Case):
    def check(self, one, other, number):
        self.assert_same(self.quick(parting, one, other), number)
        self.assert_same(self.quick(parting, other, one), number)
        self.assert_same(self.quick(same, one, other), number is None)
        self.assert_same(self.quick(same, other, one), number is None)

    def test_examples(self):
        self.check(("", "10"), ("", "1000"), 2)

    def test_all_small_pairs(self):
        tables = small_tables(2, 4)
        rows = [row(table, 20) for table in tables]
        for one, left in zip(tables, rows):
            for other, right in zip(tables, rows):
                unlike = [n for n in range(20) if left[n] != right[n]]
                self.assertEqual(parting(one, other), unlike[0] if unlike else None)
                self.assertIs(same(one, other), not unlike)

    def test_one_set_written_twice(self):
        for table in least_tables(3, 4):
            for more, times in ((0, 2), (1, 1), (4, 3), (7, 2)):
                self.check(table, longer(table, more, times), None)
                self.check(longer(table, 3, 5), longer(table, more, times), None)

    def test_one_sign_otherwise(self):
        for table in (("0110", "10010"), ("", "0001"), ("1" * 4000, "10" * 500)):
            form = longer(table, 6, 2)
            for place in (0, 3, len(form[0]) - 1):
                head = form[0][:place] + ("1" if form[0][place] == "0" else "0") + form[0][place + 1:]
                self.check(table, (head, form[1]), place)
            for place in (0, 1, len(form[1]) - 1):
                turn = form[1][:place] + ("1" if form[1][place] == "0" else "0") + form[1][place + 1:]
                self.check(table, (form[0], turn), len(form[0]) + place)

    def test_turns_that_part_late(self):
        for one, other in ((2, 3), (3, 5), (7, 4), (50, 51), (4999, 5000), (4999, 4998),
                           (4993, 5000), (5000, 3), (2, 4999), (1, 5000)):
            self.assertEqual(gcd(one, other), 1)
            left, right = late(one, other)
            if len(set(left)) == len(set(right)) == 1:
                continue
            for head in ("", "0", "1" * 5000):
                self.check((head, left), (head, right), len(head) + one + other - 2)

    def test_unlike_turns(self):
        self.check(("", prime_turn(4999)), ("", prime_turn(5000)), 4999)
        self.check(("1" * 5000, prime_turn(5000)), ("", "1"), 5001)
        self.check(EMPTY, ("0" * 5000, "0" * 4999 + "1"), 9999)
        self.check(EMPTY, ALL, 0)
        self.check(EMPTY, ("0" * 5000, "0" * 9 + "1"), 5009)
        self.check(("", "01"), ("01" * 2498 + "0100", "01"), 4999)

    def test_guarantee(self):
        tables = least_tables(2, 4)
        for one in tables:
            for other in tables:
                number = parting(one, other)
                if number is not None:
                    most = max(len(one[0]), len(other[0])) + len(one[1]) + len(other[1])
                    self.assertLess(number, most)

    def test_by_name(self):
        self.by_name(parting, 2, one=("", "10"), other=("", "1000"))
        self.by_name(same, False, one=("", "10"), other=("", "1000"))
        self.by_name(same, True, one=("", "10"), other=("10", "1010"))


class Within(Case):
    def check(self, one, other, number):
        self.assert_same(self.quick(escape, one, other), number)
        self.assert_same(self.quick(within, one, other), number is None)

    def refused(self, one, other):
        for function in (within, escape):
            for left, right in ((one, other), (other, one)):
                with self.assertRaises(TooGreat):
                    function(left, right)
                with self.assertRaises(RoundError):
                    function(one=left, other=right)
        # Both tell other sets, and parting is never refused.
        self.assertIsInstance(self.quick(parting, one, other), int)
        self.assertIs(self.quick(same, one, other), False)

    def test_all_small_pairs(self):
        tables = small_tables(2, 4)
        numbers = [told(table, 20) for table in tables]
        for one, left in zip(tables, numbers):
            for other, right in zip(tables, numbers):
                wanted = min(left - right, default=None)
                self.assertEqual(escape(one, other), wanted)
                self.assertIs(within(one, other), wanted is None)

    def test_that_hold(self):
        for size in (1, 2, 7, 50, 1250, 5000):
            table = ("10" * 3, prime_turn(size))
            self.check(EMPTY, table, None)
            self.check(table, ALL, None)
            self.check(table, table, None)
        self.check(("", "0001" * 1250), ("", "01"), None)
        self.check(("", prime_turn(5000)), ("", "1000"), None)

    def test_that_fail_early_and_late(self):
        self.check(("1", "0"), ("0", "1"), 0)
        self.check(ALL, ("1" * 4999, "0"), 4999)
        self.check(ALL, ("1" * 5000, "1" * 4999 + "0"), 9999)
        # The turns 70 and 71 have the place 4969 in common, just ahead of their second start.
        self.check(("", "0" * 69 + "1"), ("", "1" * 70 + "0"), 4969)
        self.check(("1" * 5000, "0" * 69 + "1"), ("1" * 5000, "1" * 70 + "0"), 9969)
        self.check(("0" * 5000, prime_turn(70)), ("", "1" * 70 + "0"),
                   next(n for n in range(5000, 20000, 70) if n % 71 == 70))

    def test_refused_by_the_common_turn(self):
        for one, other, fits in (
                (70, 71, True), (8, 625, True), (17, 294, True), (5000, 2500, True),
                (5000, 5000, True), (4999, 1, True), (61, 82, False), (3, 1667, False),
                (70, 73, False), (4999, 2, False), (4999, 5000, False), (5000, 3, False),
                (50, 101, False), (100, 50, True), (4999, 4999, True), (5000, 4998, False)):
            left, right = ("", prime_turn(one)), ("", prime_turn(other))
            if not fits:
                self.refused(left, right)
                continue
            twice = [n for n in range(0, 5000, one) if n % other]
            self.check(left, right, twice[0] if twice else None)
            back = [n for n in range(0, 5000, other) if n % one]
            self.check(right, left, back[0] if back else None)

    def test_the_least_tables_tell_whether_it_is_refused(self):
        self.check(("", "10" * 2500), ("", prime_turn(2499)), 2)
        self.check(("", "10" * 2499), ("", prime_turn(5000)), 2)
        self.check(("", prime_turn(2499)), ("", "10" * 2500), 2499)
        self.check(("", prime_turn(5000)), ("", "10" * 2499), None)
        self.check(("", "1" * 5000), ("", "1" * 4998 + "0"), 4998)
        self.check(("", "0" * 4999), ("", prime_turn(5000)), None)
        self.refused(("", "10" * 2500), ("", prime_turn(4999)))
        self.refused(("0" * 5000, prime_turn(71) * 70), ("1" * 5000, prime_turn(73) * 68))

    def test_refused_ahead_of_all_work(self):
        # That 0 escapes at once, or that all multiples of 4998 are within, does not matter.
        self.refused(("1", prime_turn(4999)), ("0", prime_turn(2)))
        self.refused(("", prime_turn(4998)), ("", "1110"))

    def test_by_name(self):
        self.by_name(within, True, one=("", "1000"), other=("", "10"))
        self.by_name(within, False, one=("", "10"), other=("", "1000"))
        self.by_name(escape, 2, one=("", "10"), other=("", "1000"))
        self.by_name(escape, None, one=("", "1000"), other=("", "10"))


class JustAndEachStep(Case):
    def test_example(self):
        self.assertEqual(each_step(3, 2), ("00", "01"))

    def test_few_numbers(self):
        for bits in range(128):
            numbers = tuple(n for n in range(7) if bits >> n & 1)
            self.assert_table(just(numbers), (row_of_numbers(numbers, 7), "0"))
            self.assertEqual(told(just(numbers), 100), set(numbers))

    def test_bounds_of_just(self):
        self.assertEqual(just(()), EMPTY)
        self.assertEqual(self.quick(just, (4999,)), ("0" * 4999 + "1", "0"))
        self.assertEqual(self.quick(just, (0, 4999)), ("1" + "0" * 4998 + "1", "0"))
        self.assertEqual(self.quick(just, tuple(range(5000))), ("1" * 5000, "0"))
        self.assertEqual(self.quick(just, tuple(range(0, 5000, 2))), ("10" * 2499 + "1", "0"))

    def test_steps(self):
        for first in range(14):
            for step in range(1, 14):
                text = row_of_numbers(range(first, first + 40, step), first + step)
                self.assert_table(each_step(first, step), (text[:first], text[first:]))
                self.assertEqual(told(each_step(first, step), first + 40),
                                 set(range(first, first + 40, step)))

    def test_bounds_of_each_step(self):
        self.assertEqual(each_step(0, 1), ALL)
        self.assertEqual(each_step(0, 2), ("", "10"))
        self.assertEqual(self.quick(each_step, 0, 5000), ("", "1" + "0" * 4999))
        self.assertEqual(self.quick(each_step, 4999, 1), ("0" * 4999, "1"))
        self.assertEqual(self.quick(each_step, 4999, 5000), ("", "0" * 4999 + "1"))
        self.assertEqual(self.quick(each_step, 4999, 4999), ("0", "0" * 4998 + "1"))
        self.assertEqual(self.quick(each_step, 4998, 5000), ("", "0" * 4998 + "10"))
        self.assertEqual(self.quick(each_step, 4999, 2), ("0" * 4998, "01"))

    def test_by_name(self):
        self.by_name(just, ("001", "0"), numbers=(2,))
        self.by_name(each_step, ("00", "01"), first=3, step=2)


def row_of_numbers(numbers, many):
    return "".join("1" if n in numbers else "0" for n in range(many))


if __name__ == "__main__":
    unittest.main()
