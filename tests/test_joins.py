import random
import unittest
from math import gcd, lcm

from leastmakers.errors import RoundError, TooGreat
from leastmakers.joins import (
    back, both, but, contrary, counted, either, moved, picked, spread, star, steps, sums)
from leastmakers.tables import ALL, EMPTY, each_step, just, least
from reckoning import (
    Case, from_numbers, least_tables, longer, plain_least, prime_turn, row, sign, small_tables,
    told)


def plain_pairs(one, other, many):
    """The sets that both, either and but tell, below many."""
    left, right = told(one, many), told(other, many)
    return left & right, left | right, left - right


def plain_sums(one, other, many):
    left, right = told(one, many), told(other, many)
    return {a + b for a in left for b in right if a + b < many}


def plain_star(table, many):
    parts = [number for number in told(table, many) if number > 0]
    found = [True]
    for number in range(1, many):
        found.append(any(part <= number and found[number - part] for part in parts))
    return {number for number in range(many) if found[number]}


def plain_picked(one, other, many):
    order = sorted(told(one, many))
    return {number for place, number in enumerate(order) if sign(other, place) == "1"}


def plain_counted(one, other, many):
    numbers = told(one, many)
    return {number for number in range(many)
            if sign(other, len([n for n in numbers if n < number])) == "1"}


def size_of_sums(one, other):
    turns = len(one[1]), len(other[1])
    return len(one[0]) + len(other[0]) + lcm(*turns) + gcd(*turns), lcm(*turns)


def size_of_order(one, other):
    return len(one[0]) + len(one[1]) * (len(other[0]) + 1), len(one[1]) * len(other[1])


def random_table(picker, head, turn):
    """Any table with a head and a turn of at most so many signs, least or not."""
    head = "".join(picker.choice("01") for _ in range(picker.randint(0, head)))
    return head, "".join(picker.choice("01") for _ in range(picker.randint(1, turn)))


def pairs_of_tables():
    """Pairs of small tables in many forms, and of greater ones."""
    small = least_tables(2, 3)
    pairs = [(one, other) for one in small for other in small]
    pairs += [(longer(one, 3, 2), longer(other, 1, 3)) for one, other in pairs[::5]]
    picker = random.Random(2)
    pairs += [(random_table(picker, 9, 8), random_table(picker, 7, 9)) for _ in range(150)]
    finite = [just(()), just((0,)), just((3,)), just((0, 4)), just((1, 2, 7)), EMPTY, ALL]
    endless = [each_step(3, 4), each_step(0, 5), ("0110", "10010"), ("111", "0010")]
    pairs += [(one, other) for one in finite + endless for other in finite + endless]
    return pairs


class JoinCase(Case):
    def refused(self, function, *values):
        """The function raises TooGreat, and does for longer forms of its tables."""
        forms = [values]
        if all(len(value[0]) < 2000 and len(value[1]) < 1667
               for value in values if isinstance(value, tuple)):
            forms.append(tuple(longer(v, 3, 3) if isinstance(v, tuple) else v for v in values))
        for form in forms:
            with self.assertRaises(TooGreat):
                function(*form)
            with self.assertRaises(RoundError):
                function(*form)

    def far_alike(self, table, is_told, start=0):
        """The table is least and tells just the numbers of which is_told is so, also far ones."""
        self.assertEqual(least(table), table)
        near = list(range(start, start + 60)) + list(range(4950, 5070)) + list(range(9950, 10070))
        for number in near + [10 ** 18 + k for k in range(-100, 3)]:
            self.assertEqual(sign(table, number) == "1", is_told(number), number)


class Pairs(JoinCase):
    def test_against_the_signs(self):
        for one, other in pairs_of_tables():
            first, second = plain_least(one), plain_least(other)
            head = max(len(first[0]), len(second[0]))
            turn = lcm(len(first[1]), len(second[1]))
            wanted = plain_pairs(one, other, head + 3 * turn)
            for function, numbers in zip((both, either, but), wanted):
                found = function(one, other)
                self.assert_same(found, from_numbers(numbers, head, turn))
                self.assertEqual(told(found, head + 3 * turn), numbers)

    def test_far_numbers(self):
        one = ("0110" * 30, "1" + "0" * 34 + "1" * 34 + "0")
        other = ("1" * 200, "01" * 35 + "1")
        for left, right in ((one, other), (other, one)):
            for function, rule in ((both, lambda a, b: a and b), (either, lambda a, b: a or b),
                                   (but, lambda a, b: a and not b)):
                found = self.quick(function, left, right)
                self.far_alike(found, lambda n: rule(sign(left, n) == "1", sign(right, n) == "1"))

    def test_bounds(self):
        for one, other in ((70, 71), (8, 625), (17, 294), (5000, 2500), (5000, 5000), (4999, 1)):
            left, right = ("1" * 5000, prime_turn(one)), ("0" * 5000, prime_turn(other))
            for function in (both, either, but):
                self.quick(function, left, right)
                self.quick(function, right, left)
            common = lcm(one, other)
            self.assertEqual(both(left, right), least(("0" * 5000, prime_turn(common))))
            self.assertEqual(but(left, left), EMPTY)
        for one, other in ((61, 82), (3, 1667), (70, 73), (4999, 2), (4999, 5000), (50, 101)):
            left, right = ("", prime_turn(one)), ("", prime_turn(other))
            for function in (both, either, but):
                self.refused(function, left, right)
                self.refused(function, right, left)

    def test_least_tables_tell_whether_it_is_refused(self):
        long_forms = ("", "10" * 2500), ("", prime_turn(2499) * 2)
        for one, other in (long_forms, long_forms[::-1]):
            numbers = plain_pairs(one, other, 4998)
            for function, wanted in zip((both, either, but), numbers):
                self.assertEqual(told(self.quick(function, one, other), 4998), wanted)
        for function in (both, either, but):
            self.refused(function, ("", "10" * 2500), ("", prime_turn(4999)))
            self.refused(function, ("", prime_turn(4999)), ("", "10" * 2500))

    def test_by_name(self):
        self.by_name(both, ("", "100000"), one=("", "10"), other=("", "100"))
        self.by_name(either, ("", "101110"), one=("", "10"), other=("", "100"))
        self.by_name(but, ("", "001010"), one=("", "10"), other=("", "100"))


class Contrary(JoinCase):
    def test_against_the_signs(self):
        for table in small_tables(3, 4):
            wanted = set(range(40)) - told(table, 40)
            self.assert_same(contrary(table), from_numbers(wanted, 3, 12))
            self.assertEqual(told(contrary(table), 40), wanted)

    def test_long(self):
        self.assertEqual(self.quick(contrary, ("0" * 4999 + "1", "1" + "0" * 4999)),
                         ("1" * 4999 + "0", "0" + "1" * 4999))
        self.assertEqual(contrary(ALL), EMPTY)
        self.assertEqual(contrary(EMPTY), ALL)
        self.assertEqual(contrary(("00", "0000")), ALL)

    def test_by_name(self):
        self.by_name(contrary, ("0", "1"), table=("10", "0"))


class MovedAndBack(JoinCase):
    def test_moved_against_the_signs(self):
        for table in small_tables(3, 3):
            for by in (0, 1, 2, 5, 7):
                wanted = {number + by for number in told(table, 40)}
                self.assert_same(moved(table, by), from_numbers(wanted, 3 + by, 6))
                self.assertEqual(told(moved(table, by), 40), {n for n in wanted if n < 40})

    def test_moved_far(self):
        table = ("0110", "1011000")
        for by in (0, 1, 6, 7, 4995, 4996):
            found = self.quick(moved, table, by)
            self.far_alike(found, lambda n: n >= by and sign(table, n - by) == "1")

    def test_bounds_of_moved(self):
        self.assertEqual(self.quick(moved, EMPTY, 5000), EMPTY)
        self.assertEqual(self.quick(moved, ALL, 5000), ("0" * 5000, "1"))
        self.assertEqual(self.quick(moved, ALL, 4999), ("0" * 4999, "1"))
        self.assertEqual(self.quick(moved, ("1", "0"), 4999), ("0" * 4999 + "1", "0"))
        self.assertEqual(self.quick(moved, ("", prime_turn(5000)), 5000), ("0", "0" * 4999 + "1"))
        self.assertEqual(self.quick(moved, ("", prime_turn(4999)), 4998), ("", "0" * 4998 + "1"))
        self.assertEqual(self.quick(moved, ("1" * 5000, "0"), 0), ("1" * 5000, "0"))
        self.refused(moved, ("1", "0"), 5000)
        self.refused(moved, ("01", "0"), 4999)
        self.refused(moved, ("1" * 5000, "0"), 1)
        self.refused(moved, ("1" * 2500, "0"), 2501)
        self.assertEqual(moved(("1" * 2500, "0"), 2500), ("0" * 2500 + "1" * 2500, "0"))

    def test_moved_of_longer_forms(self):
        # The heads of the least tables have 1 and 0 signs.
        self.assertEqual(moved(("1" + "0" * 4999, "00"), 4999), ("0" * 4999 + "1", "0"))
        self.assertEqual(moved(("1" * 5000, "1" * 5000), 5000), ("0" * 5000, "1"))
        self.refused(moved, ("1" + "0" * 4999, "00"), 5000)

    def test_back_against_the_signs(self):
        for table in small_tables(3, 3):
            for by in (0, 1, 2, 3, 4, 5, 9, 10, 10 ** 18 - 1, 10 ** 18):
                wanted = {number for number in range(40) if sign(table, number + by) == "1"}
                self.assert_same(back(table, by), from_numbers(wanted, 3, 6))
                self.assertEqual(told(back(table, by), 40), wanted)

    def test_back_of_long_tables(self):
        for table in (("01" * 2500, prime_turn(4999)), ("1" * 4999, "0" * 4999 + "1"), ALL, EMPTY,
                      ("1" + "0" * 4999, "00" * 2500)):
            for by in (0, 1, 4998, 4999, 5000, 5001, 9999, 10 ** 18 - 1, 10 ** 18):
                found = self.quick(back, table, by)
                self.far_alike(found, lambda n: sign(table, n + by) == "1")

    def test_by_name(self):
        self.by_name(moved, ("00", "01"), table=("", "10"), by=3)
        self.by_name(back, ("", "01"), table=("", "10"), by=3)


class SpreadAndSteps(JoinCase):
    def test_spread_against_the_signs(self):
        for table in small_tables(2, 3):
            for times in (1, 2, 3, 7):
                wanted = {number * times for number in told(table, 30)}
                self.assert_same(spread(table, times), from_numbers(wanted, 2 * times, 6 * times))
                self.assertEqual(told(spread(table, times), 30 * times), wanted)

    def test_bounds_of_spread(self):
        self.assertEqual(self.quick(spread, EMPTY, 1000), EMPTY)
        self.assertEqual(self.quick(spread, ALL, 1000), ("", prime_turn(1000)))
        self.assertEqual(self.quick(spread, ("", prime_turn(5)), 1000), ("", prime_turn(5000)))
        self.assertEqual(self.quick(spread, ("", prime_turn(6)), 833), ("", prime_turn(4998)))
        self.assertEqual(self.quick(spread, ("00001", "0"), 1000), ("0" * 4000 + "1", "0"))
        self.assertEqual(self.quick(spread, ("", prime_turn(5000)), 1), ("", prime_turn(5000)))
        self.assertEqual(self.quick(spread, ("1" * 5000, "0"), 1), ("1" * 5000, "0"))
        self.assertEqual(spread(("1" + "0" * 4999, "00"), 1000), ("1", "0"))
        self.assertEqual(spread(("", "1" * 5000), 1000), ("", prime_turn(1000)))
        self.refused(spread, ("", prime_turn(6)), 834)
        self.refused(spread, ("", prime_turn(6)), 1000)
        self.refused(spread, ("000001", "0"), 1000)
        self.refused(spread, ("000001", "0"), 834)
        self.refused(spread, ("1" * 5000, "0"), 2)
        self.refused(spread, ("1" * 2501, "0"), 2)
        self.refused(spread, ("", prime_turn(2501)), 2)
        self.assertEqual(spread(("", prime_turn(2500)), 2), ("", prime_turn(5000)))
        self.far_alike(spread(("01101", "10"), 999),
                       lambda n: n % 999 == 0 and sign(("01101", "10"), n // 999) == "1")

    def test_steps_against_the_signs(self):
        for table in small_tables(3, 4):
            for first in (0, 1, 2, 3, 5, 10 ** 18):
                for step in (1, 2, 3, 4, 6, 10 ** 6):
                    wanted = {k for k in range(30) if sign(table, first + step * k) == "1"}
                    found = steps(table, first, step)
                    self.assert_same(found, from_numbers(wanted, 3, 12))
                    self.assertEqual(told(found, 30), wanted)

    def test_steps_of_long_tables(self):
        for table in (("01" * 2500, prime_turn(4999)), ("1" * 4999, "0" * 4999 + "1"),
                      ("011" * 1000, "10" * 2000 + "1")):
            for first in (0, 1, 4999, 5000, 10 ** 18 - 1, 10 ** 18):
                for step in (1, 2, 50, 4999, 5000, 999999, 10 ** 6):
                    found = self.quick(steps, table, first, step)
                    self.far_alike(found, lambda k: sign(table, first + step * k) == "1")

    def test_by_name(self):
        self.by_name(spread, ("", "001000"), table=("", "010"), times=2)
        self.by_name(steps, ("", "0"), table=("", "0010"), first=1, step=2)
        self.by_name(steps, ("", "10"), table=("", "0010"), first=2, step=2)


class Sums(JoinCase):
    def test_examples(self):
        self.assertEqual(sums(("", "100"), ("1", "0")), ("", "100"))
        self.assertEqual(sums(each_step(0, 2), each_step(0, 3)), ("10", "1"))

    def test_against_the_signs(self):
        for one, other in pairs_of_tables():
            head, turn = size_of_sums(plain_least(one), plain_least(other))
            wanted = plain_sums(one, other, head + 3 * turn)
            found = sums(one, other)
            self.assert_same(found, from_numbers(wanted, head, turn))
            self.assertEqual(told(found, head + 3 * turn), wanted)
            self.assertEqual(sums(other, one), found)

    def test_turns_with_all_kinds_of_common_divisors(self):
        for one, other in ((6, 10), (12, 18), (9, 27), (7, 11), (15, 15), (1, 13), (20, 30)):
            for first, second in ((0, 0), (3, 0), (2, 9), (11, 11)):
                left, right = each_step(first, one), each_step(second, other)
                head, turn = size_of_sums(left, right)
                wanted = plain_sums(left, right, head + 3 * turn)
                self.assertEqual(sums(left, right), from_numbers(wanted, head, turn))

    def test_bounds(self):
        half = each_step(0, 2500)
        self.assertEqual(self.quick(sums, half, half), half)
        self.assertEqual(self.quick(sums, EMPTY, ("", prime_turn(4999))), EMPTY)
        self.assertEqual(self.quick(sums, ("", prime_turn(4999)), ALL), ALL)
        self.assertEqual(self.quick(sums, ("1" * 2499, "0"), ("1" * 2499, "0")),
                         ("1" * 4997, "0"))
        self.assertEqual(self.quick(sums, ("0" * 2498, "1"), ("1" * 2500, "0")), ("0" * 2498, "1"))
        for one, other in (((0, 2500), (2501, 2500)), ((2500, 2500), (0, 2500))):
            self.refused(sums, each_step(*one), each_step(*other))
        self.refused(sums, EMPTY, ("", prime_turn(5000)))
        self.refused(sums, ALL, ("", prime_turn(5000)))
        self.refused(sums, ("1" * 2500, "0"), ("1" * 2499, "0"))
        self.refused(sums, ("1" * 4000, "0"), ("", prime_turn(1000)))
        self.assertEqual(sums(("1" * 3999, "0"), ("", prime_turn(1000))), ALL)
        self.refused(sums, ("", prime_turn(70)), ("", prime_turn(73)))
        self.refused(sums, ("", prime_turn(71)), ("1" * 30, prime_turn(70)))

    def test_just_below_the_bound(self):
        one, other = ("", prime_turn(71)), ("1" * 29, prime_turn(70))
        found = self.quick(sums, one, other)
        parts = range(0, 10 ** 4, 71)
        self.far_alike(found, lambda n: any(sign(other, n - a) == "1" for a in parts if a <= n))
        self.assertEqual(self.quick(sums, other, one), found)
        dense = ("01" * 500, "10" * 500 + "1" * 500)
        self.assertEqual(told(self.quick(sums, dense, dense), 3000), plain_sums(dense, dense, 3000))

    def test_longer_forms(self):
        # It begins with 5000, not with 2500, so its least head has 2501 signs.
        form = ("0" * 5000, prime_turn(2500) * 2)
        self.assertEqual(sums(longer(each_step(0, 2500), 2500, 2), each_step(0, 2500)),
                         each_step(0, 2500))
        self.refused(sums, form, each_step(0, 2500))
        self.assertEqual(sums(each_step(0, 2500), longer(each_step(0, 2500), 2500, 2)),
                         each_step(0, 2500))
        self.refused(sums, each_step(0, 2500), form)

    def test_by_name(self):
        self.by_name(sums, ("10", "1"), one=("", "10"), other=("", "100"))


class Star(JoinCase):
    def test_examples(self):
        self.assertEqual(star(just((3, 5))), ("10010110", "1"))
        self.assertEqual(star(just((4, 6))), ("100", "01"))

    def test_against_the_signs(self):
        for table in small_tables(3, 3) + [longer(t, 2, 2) for t in least_tables(2, 3)]:
            head, turn = [len(part) for part in plain_least(table)]
            far = (head + 2 * turn) ** 2
            wanted = plain_star(table, far + 3 * (head + turn))
            found = star(table)
            self.assertEqual(told(found, far + 3 * (head + turn)), wanted)
            self.assertEqual(plain_least(found), found)
            self.assertLessEqual(len(found[0]), far)
            self.assertLessEqual(len(found[1]), head + turn)

    def test_few_great_numbers(self):
        for numbers in ((), (0,), (1,), (0, 1), (7,), (0, 9), (6, 9), (6, 10, 15), (11, 13),
                        (19, 20), (12, 20, 30), (24, 27), (5, 25), (29, 30), (28, 30)):
            table = just(numbers)
            wanted = plain_star(table, 2000)
            found = self.quick(star, table)
            self.assertEqual(told(found, 2000), wanted)
            self.assertEqual(least(found), found)
            if numbers and max(numbers) > 0:
                self.assertEqual(len(found[1]), gcd(*numbers))

    def test_endless_tables(self):
        for table in (each_step(3, 7), each_step(10, 4), each_step(0, 30), each_step(6, 9),
                      each_step(20, 21), ("0" * 10, "0010"), ("00001", "000100"), ALL, EMPTY):
            wanted = plain_star(table, 2500)
            found = self.quick(star, table)
            self.assertEqual(told(found, 2500), wanted)
            self.assertEqual(least(found), found)

    def test_bounds(self):
        self.assertEqual(self.quick(star, ("", prime_turn(35))), ("", prime_turn(35)))
        self.assertEqual(self.quick(star, each_step(1, 35)), ALL)
        late = ("0" * 67 + "1", "0")
        self.assertEqual(self.quick(star, late), ("", prime_turn(67)))
        self.assertEqual(self.quick(star, ("0" * 66 + "11", "0"))[1], "1")
        self.assertEqual(len(star(("0" * 66 + "11", "0"))[0]), 65 * 66)
        pair = ("", "0" * 33 + "11")
        self.assertEqual(told(self.quick(star, pair), 5000), plain_star(pair, 5000))
        self.refused(star, ("", prime_turn(36)))
        self.refused(star, ("1", "1" * 34 + "0"))
        self.refused(star, ("0" * 68 + "1", "0"))
        self.refused(star, ("1" * 69, "0"))
        self.refused(star, ("0" * 66 + "1", "10"))
        odd = ("0" * 65 + "1", "10")
        self.assertEqual(told(self.quick(star, odd), 1000), plain_star(odd, 1000))
        self.refused(star, ("1" * 5000, "0"))
        self.refused(star, ("", prime_turn(5000)))

    def test_longer_forms(self):
        self.assertEqual(star(("0" * 67 + "1" + "0" * 4932, "00")), ("", prime_turn(67)))
        self.assertEqual(star(("", prime_turn(35) * 100)), ("", prime_turn(35)))
        self.refused(star, ("", prime_turn(36) * 100))

    def test_by_name(self):
        self.by_name(star, ("100", "01"), table=just((4, 6)))
        self.by_name(star, ("1", "0"), table=EMPTY)


class Order(JoinCase):
    def test_examples(self):
        self.assertEqual(picked(each_step(1, 3), each_step(0, 2)), ("", "010000"))
        self.assertEqual(counted(each_step(0, 2), just((2,))), ("00011", "0"))

    def test_against_the_signs(self):
        for one, other in pairs_of_tables():
            head, turn = size_of_order(plain_least(one), plain_least(other))
            many = head + 2 * turn
            for function, plain in ((picked, plain_picked), (counted, plain_counted)):
                wanted = plain(one, other, many)
                found = function(one, other)
                self.assert_same(found, from_numbers(wanted, head, turn))
                self.assertEqual(told(found, many), wanted)

    def test_bounds(self):
        for function in (picked, counted):
            for one, other in (((0, 50), (0, 100)), ((0, 71), (0, 70)), ((0, 5000), (0, 1)),
                               ((0, 1), (0, 5000)), ((4999, 1), (0, 5000))):
                self.quick(function, each_step(*one), each_step(*other))
            for one, other in (((0, 50), (0, 101)), ((0, 71), (0, 71)), ((0, 2), (0, 2501)),
                               ((0, 2501), (0, 2))):
                self.refused(function, each_step(*one), each_step(*other))
            # A head of 49 signs counts for each of the 100 signs of the turn.
            self.quick(function, ("", prime_turn(100)), ("1" * 49, "0"))
            self.quick(function, ("1" * 100, prime_turn(100)), ("1" * 48, "0"))
            self.quick(function, ("1" * 4999, "0"), ALL)
            self.refused(function, ("1", prime_turn(100)), ("1" * 49, "0"))
            self.refused(function, ("", prime_turn(100)), ("1" * 50, "0"))
            self.refused(function, ("1" * 5000, "0"), ALL)
            self.refused(function, ALL, ("1" * 5000, "0"))
            self.quick(function, ALL, ("1" * 4999, "0"))
        self.assertEqual(picked(each_step(0, 50), each_step(0, 100)), ("", prime_turn(5000)))
        self.assertEqual(picked(ALL, ("1" * 4999, "0")), ("1" * 4999, "0"))
        self.assertEqual(counted(ALL, ("1" * 4999, "0")), ("1" * 4999, "0"))
        self.assertEqual(picked(("", prime_turn(100)), ("1" * 49, "0")),
                         (prime_turn(100) * 48 + "1", "0"))
        self.assertEqual(counted(("", prime_turn(100)), ("1" * 49, "0")), ("1" * 4801, "0"))

    def test_far_numbers(self):
        one, other = ("0110", "1" * 20 + "0" * 30), ("101" * 10, "01" * 25)
        order = sorted(told(one, 20000))
        ahead = {number: place for place, number in enumerate(order)}
        found = self.quick(picked, one, other)
        self.assertEqual(told(found, 20000),
                         {n for n in order if sign(other, ahead[n]) == "1"})
        found = self.quick(counted, one, other)
        less, wanted = 0, set()
        for number in range(20000):
            if sign(other, less) == "1":
                wanted.add(number)
            less += number in ahead
        self.assertEqual(told(found, 20000), wanted)

    def test_longer_forms(self):
        one, other = longer(each_step(0, 50), 100, 10), longer(each_step(0, 100), 7, 5)
        self.assertEqual(picked(one, other), ("", prime_turn(5000)))
        self.assertEqual(counted(one, other), counted(each_step(0, 50), each_step(0, 100)))

    def test_by_name(self):
        self.by_name(picked, ("", "010000"), one=each_step(1, 3), other=each_step(0, 2))
        self.by_name(counted, ("00011", "0"), one=each_step(0, 2), other=just((2,)))


class Guarantees(JoinCase):
    def test_of_one_table(self):
        picker = random.Random(3)
        tables = small_tables(2, 3) + [random_table(picker, 12, 9) for _ in range(60)]
        for table in tables:
            self.assertEqual(contrary(contrary(table)), least(table))
            self.assertEqual(picked(table, ALL), least(table))
            for by in (0, 1, 5, 40):
                self.assertEqual(back(moved(table, by), by), least(table))
            for times in (1, 2, 7, 100):
                self.assertEqual(steps(spread(table, times), 0, times), least(table))

    def test_star_twice(self):
        for table in small_tables(3, 2):
            once = star(table)
            if (len(once[0]) + 2 * len(once[1])) ** 2 <= 5000:
                self.assertEqual(star(once), once)

    def test_of_two_tables(self):
        for one, other in pairs_of_tables()[::3]:
            self.assertEqual(contrary(either(one, other)), both(contrary(one), contrary(other)))
            self.assertEqual(but(one, other), both(one, contrary(other)))
            chosen, counting = picked(one, other), counted(one, other)
            for number in told(one, 60):
                self.assertEqual(sign(chosen, number), sign(counting, number))
            self.assertEqual(row(either(one, other), 50), row(either(other, one), 50))


if __name__ == "__main__":
    unittest.main()
