import itertools
import random
import unittest
from math import gcd, lcm

from leastmakers.errors import RoundError, TooGreat, TooMany
from leastmakers.tables import ALL, EMPTY, each_step, just, least, signs
from leastmakers.watches import (
    fewest_watches, going, greatest_turn, hands, held, longest_watches, meeting, watches_error,
    widest_watches)
from reckoning import (
    VALUES, Case, from_numbers, longer, prime_turn, row, sign, small_tables, told)

# What is no number of an item of a watch, whatever its bounds are.
NO_NUMBERS = (None, True, False, -1, -2, 10 ** 39, -10 ** 39, "", "1", "5", (), (1,), [], [1], {},
              {1: 1})


def goes(watch, number):
    first, turn = watch
    return number >= first and (number - first) % turn == 0


def size_of(watches):
    """The lengths H and T that point [B1] tells."""
    return max([0] + [first - turn + 1 for first, turn in watches]), lcm(*[t for _, t in watches])


def random_watches(picker, many, first, turn):
    return tuple((picker.randint(0, first), picker.randint(1, turn)) for _ in range(many))


class WatchesError(Case):
    def check(self, value, pair):
        self.check_value(watches_error, value, pair)

    def test_watches(self):
        for first in range(201):
            self.check(((first, 1),), None)
            self.check(((first, 60),), None)
        for turn in range(1, 61):
            self.check(((0, turn), (200, turn)), None)
        self.check(((5, 7), (5, 7), (0, 60), (200, 1)), None)

    def test_many(self):
        for many in range(1, 9):
            self.check(((3, 4),) * many, None)
            self.check(tuple((200 - k, k + 1) for k in range(many)), None)
        for many in (0, 9, 10, 100):
            self.check(((3, 4),) * many, (None, "watches"))
        self.check((5,) * 9, (None, "watches"))
        self.check(((201, 61),) * 9, (None, "watches"))

    def test_no_tuple(self):
        for value in VALUES:
            if not isinstance(value, tuple) or not value:
                self.check(value, (None, "watches"))
        self.check([(3, 4)], (None, "watches"))
        self.check({(3, 4): 1}, (None, "watches"))

    def test_no_watch(self):
        for value in VALUES + ([3, 4], (3,), (3, 4, 5), 3, "34", {3: 4, 5: 6}):
            if not isinstance(value, tuple) or len(value) != 2:
                for place in range(8):
                    self.check(((3, 4),) * place + (value,), (place, "watch"))
        self.check((3, 4), (0, "watch"))

    def test_first_and_turn(self):
        for wrong in NO_NUMBERS + (201, 202, 1000):
            for place in (0, 1, 7):
                self.check(((3, 4),) * place + ((wrong, 4),), (place, "first"))
                self.check(((3, 4),) * place + ((wrong, 0),), (place, "first"))
                self.check(((3, 4),) * place + ((wrong, wrong),), (place, "first"))
        for wrong in NO_NUMBERS + (0, 61, 62, 200, 1000):
            for place in (0, 1, 7):
                self.check(((3, 4),) * place + ((3, wrong),), (place, "turn"))
                self.check(((3, 4),) * place + ((200, wrong),), (place, "turn"))

    def test_the_first_item_that_is_wrong(self):
        self.check(((3, 0), (3,), (201, 3)), (0, "turn"))
        self.check(((3, 1), (3,), (201, 3)), (1, "watch"))
        self.check(((3, 1), (201, 3), (3,)), (1, "first"))
        self.check(((3, 1), (3, 61), None), (1, "turn"))
        self.check(((3, 1), None, (3, 61)), (1, "watch"))

    def test_by_name(self):
        self.by_name(watches_error, None, value=((0, 1),))
        self.by_name(watches_error, (0, "first"), value=((True, 1),))


class Held(Case):
    def check(self, watches):
        head, turn = size_of(watches)
        many = head + 2 * turn
        at = [sum(goes(watch, number) for watch in watches) for number in range(many)]
        found = self.quick(held, watches)
        wanted = {number for number in range(many) if at[number] > 0}
        self.assert_same(found, from_numbers(wanted, head, turn))
        self.assertEqual(told(found, many), wanted)
        for count in range(len(watches) + 1):
            wanted = {number for number in range(many) if at[number] == count}
            found = self.quick(going, watches, count)
            self.assert_same(found, from_numbers(wanted, head, turn))
            self.assertEqual(told(found, many), wanted)

    def test_examples(self):
        self.assertEqual(held(((0, 2), (1, 3))), ("", "111010"))
        self.assertEqual(going(((0, 2), (1, 3)), 2), ("", "000010"))
        self.assertEqual(held(((5, 2),)), ("0000", "01"))

    def test_one_watch(self):
        for first in list(range(8)) + [59, 60, 61, 199, 200]:
            for turn in list(range(1, 8)) + [59, 60]:
                self.check(((first, turn),))
                head, size = size_of(((first, turn),))
                table = held(((first, turn),))
                self.assertEqual((len(table[0]), len(table[1])), (head, size))
                self.assertEqual(table, each_step(first, turn))

    def test_two_watches(self):
        watches = [(first, turn) for first in range(4) for turn in range(1, 5)]
        for one in watches:
            for other in watches:
                self.check((one, other))

    def test_alike_watches(self):
        for many in range(1, 9):
            self.check(((3, 4),) * many)
        self.assertEqual(going(((3, 4), (3, 4)), 1), EMPTY)
        self.assertEqual(going(((3, 4), (3, 4)), 2), each_step(3, 4))
        self.assertEqual(going(((3, 4), (7, 4)), 1), just((3,)))
        self.assertEqual(going(((0, 1), (3, 1)), 0), EMPTY)
        self.assertEqual(going(((2, 1), (3, 1)), 0), ("11", "0"))

    def test_up_to_eight_watches(self):
        picker = random.Random(6)
        for many in (3, 4, 5, 6, 7, 8):
            for first, turn in ((10, 4), (200, 6), (30, 3)):
                for _ in range(3):
                    self.check(random_watches(picker, many, first, turn))

    def test_turns_without_common_divisors(self):
        for turns in ((2, 3), (3, 4, 5), (2, 3, 5, 7), (59, 60), (8, 9, 5, 7), (49, 51, 2)):
            for firsts in ((0, 0, 0, 0), (7, 1, 0, 30), (200, 3, 199, 5)):
                table = self.quick(held, tuple(zip(firsts, turns)))
                self.assertEqual(len(table[1]), lcm(*turns))

    def test_bounds(self):
        # The least common multiples are 4998, 4995, 5040, 5005, and far above.
        for turns in ((49, 51, 2), (27, 37, 5), (49, 34, 3), (49, 49, 51, 34, 17, 7, 3, 2)):
            watches = tuple((200 - k, turn) for k, turn in enumerate(turns))
            head, turn = size_of(watches)
            self.assertLessEqual(turn, 5000)
            self.assertEqual(least(held(watches)), self.quick(held, watches))
            for number in list(range(190, 400)) + list(range(5000, 5300)):
                count = sum(goes(watch, number) for watch in watches)
                self.assertEqual(sign(held(watches), number) == "1", count > 0)
                self.assertEqual(sign(going(watches, 1), number) == "1", count == 1)
        for turns in ((5, 7, 11, 13), (4, 9, 11, 13), (53, 59, 2), (60, 59, 58, 57, 53, 47, 43, 41)):
            for firsts in ((0,) * 8, tuple(range(200, 120, -10))):
                watches = tuple(zip(firsts, turns))
                self.assertGreater(size_of(watches)[1], 5000)
                # That nothing else is held does not matter.
                for form in (watches, watches[::-1], ((0, 1),) + watches[:7]):
                    if size_of(form)[1] > 5000:
                        self.refused(form)

    def refused(self, watches):
        for kind in (TooGreat, RoundError, ValueError):
            with self.assertRaises(kind):
                held(watches)
            with self.assertRaises(kind):
                going(watches, 0)
            with self.assertRaises(kind):
                going(watches=watches, many=len(watches))

    def test_refused_though_the_table_is_short(self):
        self.refused(((0, 1), (0, 59), (0, 58), (0, 57)))
        self.refused(((0, 2), (0, 58), (0, 46), (0, 38), (0, 34)))

    def test_by_name(self):
        self.by_name(held, ("", "111010"), watches=((0, 2), (1, 3)))
        self.by_name(going, ("", "000010"), watches=((0, 2), (1, 3)), many=2)


class Hands(Case):
    def test_against_the_numbers(self):
        picker = random.Random(7)
        for many in range(1, 9):
            for _ in range(6):
                watches = random_watches(picker, many, 20, 5)
                for number in range(40):
                    wanted = tuple(k for k in range(many) if goes(watches[k], number))
                    self.assert_same(hands(watches, number), wanted)

    def test_bounds(self):
        watches = ((0, 1), (200, 60), (0, 60), (40, 60), (200, 1), (199, 59), (0, 7), (1, 2))
        for number in (0, 1, 40, 199, 200, 201, 10 ** 18 - 1, 10 ** 18, 10 ** 18 + 20):
            wanted = tuple(k for k in range(8) if goes(watches[k], number))
            self.assert_same(self.quick(hands, watches, number), wanted)
        self.assertEqual(hands(((5, 2), (5, 2)), 4), ())
        self.assertEqual(hands(((5, 2), (5, 2)), 5), (0, 1))
        self.assertEqual(hands(((5, 2), (5, 2)), 3), ())

    def test_by_name(self):
        self.by_name(hands, (1,), watches=((0, 2), (1, 3)), number=1)


class Meeting(Case):
    def test_all_small_pairs(self):
        watches = [(first, turn) for first in (0, 1, 2, 3, 7, 10) for turn in range(1, 13)]
        for one in watches:
            for other in watches:
                both = [n for n in range(one[0], 160, one[1]) if goes(other, n)]
                self.assert_same(meeting(one, other), both[0] if both else None)

    def test_turns_of_every_common_divisor(self):
        for one in (60, 59, 58, 54, 48, 45, 36, 30, 1):
            for other in (60, 59, 57, 50, 48, 42, 32, 30, 1):
                for first, second in ((0, 0), (200, 0), (0, 200), (17, 5), (199, 200), (200, 200)):
                    number = self.quick(meeting, (first, one), (second, other))
                    if (first - second) % gcd(one, other):
                        self.assertIsNone(number)
                        continue
                    self.assertTrue(goes((first, one), number) and goes((second, other), number))
                    self.assertFalse(number - lcm(one, other) >= max(first, second))
                    self.assertEqual(number, meeting((second, other), (first, one)))

    def test_by_name(self):
        self.by_name(meeting, 4, one=(0, 2), other=(1, 3))
        self.by_name(meeting, None, one=(0, 2), other=(1, 4))


def best_by_sums():
    """best[many][total]: the greatest least common multiple of so many turns of this total."""
    # For each least common multiple the least total of turns with it.
    ways = {1: 0}
    best = [[1] * 101]
    for _ in range(8):
        grown = dict(ways)
        for multiple, total in ways.items():
            for turn in range(2, min(60, 100 - total) + 1):
                found = lcm(multiple, turn)
                if found > multiple and grown.get(found, 101) > total + turn:
                    grown[found] = total + turn
        ways = grown
        line = [1] * 101
        for multiple, total in ways.items():
            line[total] = max(line[total], multiple)
        best.append(list(itertools.accumulate(line, max)))
    return best


def turn_of_multiples(turns):
    """The length of the turn of watches from 0 on: those of multiples of others are held."""
    return lcm(*[turn for turn in turns if not any(turn > t and turn % t == 0 for t in turns)])


class LongTurns(Case):
    def test_examples(self):
        self.assertEqual(greatest_turn(3, 10), 30)
        self.assertEqual(greatest_turn(2, 10), 21)

    def test_every_many_and_total(self):
        best = best_by_sums()
        for many in range(1, 9):
            for total in range(1, 101):
                wanted = best[many][total]
                self.assert_same(greatest_turn(many, total), wanted)
                self.check_watches(longest_watches(many, total), many, total, wanted)

    def check_watches(self, watches, many, total, wanted):
        self.assertIsNone(watches_error(watches))
        turns = [turn for _, turn in watches]
        self.assertTrue(1 <= len(watches) <= many)
        self.assertLessEqual(sum(turns), total)
        self.assertEqual(turns, sorted(turns))
        self.assertEqual([first for first, _ in watches], [0] * len(watches))
        self.assertEqual(turn_of_multiples(turns), wanted)
        if wanted <= 400:
            self.assertEqual(len(held(watches)[1]), wanted)

    def test_ends(self):
        for many in range(1, 9):
            self.assertEqual(greatest_turn(many, 1), 1)
            self.assertEqual(longest_watches(many, 1), ((0, 1),))
            self.assertEqual(greatest_turn(many, 2), 2)
        self.assertEqual([greatest_turn(1, n) for n in (59, 60, 61, 100)], [59, 60, 60, 60])
        self.assertEqual(self.quick(greatest_turn, 8, 100), 232792560)
        self.quick(longest_watches, 8, 100)

    def test_equal_calls(self):
        for many, total in ((8, 100), (3, 30), (1, 1), (5, 77)):
            self.assertEqual(longest_watches(many, total), longest_watches(many, total))

    def test_by_name(self):
        self.by_name(greatest_turn, 30, many=3, total=10)
        self.by_name(longest_watches, ((0, 2), (0, 3), (0, 5)), many=3, total=10)


def plain_inside(table):
    """All watches within the table, by all signs at which they go up to where all come round."""
    head, turn = table
    text = row(table, max(len(head), 201) + len(turn) * 60)
    return {(first, step) for first in range(201) for step in range(1, 61)
            if "0" not in text[first::step]}


def plain_widest(inside):
    """The watches inside that are contained in no other one, ascending."""
    found = []
    for first, step in sorted(inside):
        wider = [(start, part) for part in range(1, step + 1) if step % part == 0
                 for start in range(first % part, first + 1, part) if (start, part) in inside]
        if wider == [(first, step)]:
            found.append((first, step))
    return tuple(found)


def plain_fewest(table, watches):
    """The first fewest of the watches that hold all told numbers, None if there are none."""
    start = max([len(table[0])] + [first for first, _ in watches])
    many = start + min(lcm(len(table[1]), *[step for _, step in watches]), len(table[1]) * 256)
    goal = told(table, many)
    numbers = [set(range(first, many, step)) for first, step in watches]
    for count in range(1, min(8, len(watches)) + 1):
        for places in itertools.combinations(range(len(watches)), count):
            if set().union(*[numbers[place] for place in places]) == goal:
                return tuple(watches[place] for place in places)
    return None


class Widest(Case):
    def check(self, table, brute=True):
        """Both functions go with the plain reckoning; returns the widest watches, if not many."""
        watches = plain_widest(plain_inside(table))
        if len(watches) > 12:
            self.refused(table)
            return None
        self.assert_same(self.quick(widest_watches, table), watches)
        if brute:
            wanted = plain_fewest(table, watches) if watches else None
            self.assert_same(self.quick(fewest_watches, table), wanted)
        return watches

    def refused(self, table):
        for function in (widest_watches, fewest_watches):
            for form in (table, longer(table, 3, 2)):
                with self.assertRaises(TooMany) as caught:
                    function(form)
                self.assertEqual(caught.exception.limit, 12)

    def test_examples(self):
        self.assertEqual(fewest_watches(("", "111010")), ((0, 2), (1, 3)))
        self.assertEqual(widest_watches(("", "111010")), ((0, 2), (1, 3)))

    def test_empty_full_and_finite(self):
        for table in (EMPTY, ("", "00"), ("0" * 5000, "0"), just((0,)), just((3, 4)),
                      ("1" * 5000, "0"), ("10" * 2500, "00")):
            self.assertEqual(self.quick(widest_watches, table), ())
            self.assertIsNone(self.quick(fewest_watches, table))
        for table in (ALL, ("1" * 5000, "1" * 5000)):
            self.assertEqual(self.quick(widest_watches, table), ((0, 1),))
            self.assertEqual(self.quick(fewest_watches, table), ((0, 1),))

    def test_one_watch(self):
        for first in (0, 1, 5, 59, 60, 199, 200):
            for turn in (1, 2, 7, 12, 30, 59, 60):
                table = each_step(first, turn)
                self.assertEqual(self.quick(widest_watches, table), ((first, turn),))
                self.assertEqual(self.quick(fewest_watches, table), ((first, turn),))
        for first, turn in ((201, 1), (201, 7), (0, 61), (5, 61), (4999, 60), (230, 30)):
            self.assertEqual(widest_watches(each_step(first, turn)), ())
            self.assertIsNone(fewest_watches(each_step(first, turn)))

    def test_small_tables(self):
        seen = 0
        for table in small_tables(2, 5)[::3]:
            seen += self.check(table) is not None
        self.assertGreater(seen, 30)

    def test_random_watches(self):
        picker = random.Random(8)
        seen, several = 0, 0
        for _ in range(120):
            watches = tuple((picker.randint(0, picker.choice((3, 10, 200))),
                             picker.choice((2, 3, 4, 5, 6, 8, 10, 12)))
                            for _ in range(picker.randint(1, 5)))
            table = held(watches)
            if size_of(watches)[1] > 60:
                continue
            found = self.check(table)
            seen += found is not None
            several += found is not None and len(found) > 2
        self.assertGreater(seen, 40)
        self.assertGreater(several, 10)

    def test_that_no_watches_hold(self):
        for table in (("1", "0010"), ("1", "10"), ("", prime_turn(61)), ("0110", "0001"),
                      ("11", "000010"), longer(("1", "0010"), 5, 3)):
            found = self.check(table)
            self.assertIsNotNone(found)
            self.assertIsNone(fewest_watches(table))

    def test_some_told_numbers_are_in_no_watch(self):
        self.assertEqual(widest_watches(("1", "0010")), ((3, 4),))
        self.assertIsNone(fewest_watches(("1", "0010")))
        self.assertEqual(fewest_watches(("0", "0010")), ((3, 4),))

    def test_the_first_of_several_fewest(self):
        tables = {
            ("", "100111100111101111100111100111"): ((0, 3), (4, 6), (4, 10), (5, 6)),
            ("", "010110000111000110000110001110"): ((1, 10), (3, 6), (4, 6), (11, 15)),
            ("0100000000", "001101"): ((1, 12), (12, 3), (13, 6)),
            ("000000100000", "00001000010001100001"): ((6, 10), (16, 5), (25, 20)),
            ("00000010", "100111100111101111111111100111"):
                ((6, 6), (8, 3), (8, 10), (12, 5), (13, 6)),
        }
        for table, watches in tables.items():
            self.assertIsNotNone(self.check(table))
            self.assertEqual(fewest_watches(table), watches)

    def test_twelve_and_thirteen(self):
        # A watch within a table with the turn 59, that is not full, has this turn, too.
        for many in (1, 2, 7, 8, 9, 12):
            table = ("", "".join("1" if n < many else "0" for n in range(59)))
            watches = tuple((first, 59) for first in range(many))
            self.assertEqual(self.quick(widest_watches, table), watches)
            self.assertEqual(self.quick(fewest_watches, table), watches if many <= 8 else None)
            later = ("0" * 59 + "0" * 5, table[1])
            watches = tuple((first + 64, 59) for first in range(many))
            self.assertEqual(widest_watches(later), watches)
            self.assertEqual(fewest_watches(later), watches if many <= 8 else None)
        for many in (13, 14, 40, 58):
            self.refused(("", "1" * many + "0" * (59 - many)))
        self.refused(("", "0" * 7 + "1" * 13 + "0" * 39))

    def test_twelve_watches_held_by_few(self):
        table = held(((0, 6), (1, 10), (2, 15), (3, 12), (4, 20)))
        self.check(table)

    def test_covers_that_hold_far_but_not_for_ever(self):
        # By sevens: all but the places 7, 15, 23 .. below 80, then all, too late for a watch.
        numbers = {7 * n for n in range(200) if n % 8 != 7 or n >= 80}
        table = from_numbers(numbers, 560, 7)
        self.assertEqual(self.quick(widest_watches, table), ((0, 14), (7, 28), (21, 56)))
        self.assertIsNone(self.quick(fewest_watches, table))
        # By fourteens: two watches hold all numbers that are told in four turns of seven ..
        numbers = {14 * n for n in range(200) if n % 4 != 3 or n >= 60}
        table = from_numbers(numbers, 840, 14)
        self.assertEqual(self.quick(widest_watches, table), ((0, 28), (14, 56)))
        self.assertIsNone(fewest_watches(table))

    def test_turns_that_divide_no_turn_of_the_table(self):
        # By twelves: all but the place 3.
        table = from_numbers({12 * n for n in range(40) if n != 3}, 48, 12)
        self.assertIsNotNone(self.check(table))
        self.assertEqual(len(fewest_watches(table)), 3)
        # By twelves: all but the place 7.
        table = from_numbers({12 * n for n in range(40) if n != 7}, 96, 12)
        self.assertEqual(widest_watches(table), (
            (0, 24), (0, 36), (0, 60), (12, 48), (12, 60), (24, 36), (36, 60), (48, 60), (96, 12)))
        self.assertEqual(fewest_watches(table), ((0, 24), (0, 36), (12, 48), (96, 12)))

    def test_longer_forms(self):
        for table in (("", "111010"), ("1", "0010"), ("0000", "01"), ("", "1" * 7 + "0" * 52)):
            for more, times in ((0, 2), (1, 1), (300, 3)):
                form = longer(table, more, times)
                self.assertEqual(widest_watches(form), widest_watches(table))
                self.assertEqual(fewest_watches(form), fewest_watches(table))

    def test_that_they_hold_just_the_told_numbers(self):
        picker = random.Random(9)
        for _ in range(30):
            table = held(random_watches(picker, 3, 200, 8))
            try:
                watches = fewest_watches(table)
            except TooMany:
                continue
            self.assertIsNotNone(watches)
            self.assertEqual(list(watches), sorted(set(watches)))
            self.assertLessEqual(len(watches), 3)
            self.assertEqual(held(watches), table)

    def test_long_tables(self):
        full = "1" * 4999 + "0"
        for table in (("1" * 5000, full), ("10" * 2500, full), ("0" * 5000, full)):
            for function in (widest_watches, fewest_watches):
                try:
                    self.quick(function, table)
                except TooMany as error:
                    self.assertEqual(error.limit, 12)
        watches = ((0, 49), (3, 51), (4, 34), (5, 6))
        table = held(watches)
        self.assertEqual(len(table[1]), 4998)
        # The last one is held by turns by two of the others.
        self.assertEqual(self.quick(widest_watches, longer(table, 4000, 1)), watches + ((38, 51),))
        self.assertEqual(self.quick(fewest_watches, longer(table, 4000, 1)), watches)

    def test_many_rounds_of_a_long_turn(self):
        # Without 13 and 19 the watch (1, 6) is not within it, but some of its parts are.
        text = list(signs(held(((1, 6), (20, 51), (31, 49))), 9998))
        text[13] = text[19] = "0"
        table = least(("".join(text[:5000]), "".join(text[5000:])))
        self.assertEqual(len(table[1]), 4998)
        self.assertEqual(self.quick(widest_watches, table), (
            (1, 24), (1, 30), (1, 36), (1, 42), (1, 54), (7, 18), (7, 24), (7, 30), (7, 42),
            (20, 51), (25, 6), (31, 49)))
        self.assertEqual(self.quick(fewest_watches, table),
                         ((1, 24), (7, 18), (20, 51), (25, 6), (31, 49)))

    def test_by_name(self):
        self.by_name(widest_watches, ((0, 2), (1, 3)), table=("", "111010"))
        self.by_name(fewest_watches, ((0, 2), (1, 3)), table=("", "111010"))


if __name__ == "__main__":
    unittest.main()
