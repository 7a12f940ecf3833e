import itertools
import random
import unittest

from leastmakers.coins import paid
from leastmakers.errors import BadMaker, RoundError, TooGreat
from leastmakers.games import games_for, lost
from leastmakers.joins import star
from leastmakers.makers import least_makers, made, maker_error, parted, same_made
from leastmakers.tables import ALL, EMPTY, each_step, just
from leastmakers.webs import lasso, walked
from makerforms import (
    ADDING, ALL_MAKERS, BOOK, BOOK_OF_TWO, BOTH, COINS, DEEP, FIB, GREAT_BOOK, KINDS, LASSO, NO_KIND, NOT_EVEN,
    PLAIN, S, SAYINGS, TABLE, WATCHES, WEB, WRONG, plain_made)
from programforms import P
from reckoning import VALUES, Case, longer, plain_least, prime_turn, sign, small_tables
from sayingforms import TABLES

A = ("coins", ((2, 5), ()))
B = ("watches", ((0, 2),))
OVER = {1: S, 2: ("and", S, ("told", 1, 0)), 3: ("or", ("told", 2, 0), ("and", S, ("told", 1, 0)))}

GREAT = [
    ("book", GREAT_BOOK, 0), ("book", GREAT_BOOK, 2), ("watches", ((0, 59), (0, 58), (0, 57))),
    ("saying", ("and", S, ("told", 1, 0)), (("table", ("", prime_turn(71))), ("table", ("", prime_turn(72))))),
    ("saying", ("ahead", S), (("table", ("1" * 4999 + "0", "1")),)),
]
BAD = [("row", 5), None, ("table", ("", "1010")), ("saying", S, (TABLE, ("game", (9,)))), ("book", GREAT_BOOK, 3)]


def group(*makers):
    """A saying over these makers."""
    return ("saying", OVER[len(makers)], makers)


class MakerError(Case):
    def check(self, value, wanted):
        self.check_value(maker_error, value, wanted)

    def test_makers(self):
        for maker in ALL_MAKERS:
            self.check(maker, None)
        for maker in GREAT:
            self.check(maker, None)

    def test_example(self):
        self.check(("row", 5), ((), "kind"))

    def test_kind(self):
        for value in NO_KIND:
            self.check(value, ((), "kind"))
            self.check(group(value), ((0,), "kind"))
            self.check(group(TABLE, group(COINS, value, WATCHES)), ((1, 1), "kind"))

    def test_the_word_of_the_kind(self):
        for kind in KINDS:
            self.assertGreater(len(WRONG[kind]), 10)
            for value in WRONG[kind]:
                self.check(value, ((), kind))
                self.check(group(TABLE, value), ((1,), kind))
                self.check(group(TABLE, COINS, group(WATCHES, value)), ((2, 1), kind))

    def test_first_of_two(self):
        wrongs = [(WRONG[kind][-1], kind) for kind in KINDS] + [(("row", 5), "kind")]
        for (one, word), (other, _) in itertools.product(wrongs, repeat=2):
            self.check(group(one, other), ((0,), word))
            self.check(group(TABLE, one, other), ((1,), word))
            self.check(group(group(TABLE, one), other), ((0, 1), word))
            self.check(group(TABLE, one, group(other)), ((1,), word))

    def test_a_thing_ahead_of_what_stands_in_it(self):
        for wrong in (("row", 5), ("game", (9,)), None):
            self.check(("saying", ("told", 1, 0), (wrong,)), ((), "saying"))
            self.check(("saying", S, (wrong,) * 4), ((), "saying"))
            self.check(("saying", S, [wrong]), ((), "saying"))
            self.check(group(("saying", ("not", 0), (wrong,)), wrong), ((0,), "saying"))

    def test_saying_over_as_many(self):
        for many in (1, 2, 3):
            for index in (0, 1, 2):
                wanted = None if index < many else ((), "saying")
                self.check(("saying", ("not", ("told", index, 4)), (TABLE,) * many), wanted)
                self.check(("saying", ("or", S, ("told", index, 4)), (TABLE,) * many), wanted)

    def test_deep(self):
        self.check(group(group(TABLE)), None)
        self.check(group(group(group(TABLE))), ((0, 0, 0), "deep"))
        self.check(group(TABLE, group(TABLE, COINS, group(TABLE, ("row", 5)))), ((1, 2, 0), "deep"))
        for wrong in NO_KIND[:12]:
            self.check(group(group(group(wrong))), ((0, 0, 0), "deep"))
        # What comes ahead of it is told first.
        self.check(group(group(("row", 5), group(TABLE))), ((0, 0), "kind"))
        self.check(group(group(group(TABLE)), ("row", 5)), ((0, 0, 0), "deep"))
        self.check(group(group(("saying", S, ()))), ((0, 0), "saying"))

    def test_many(self):
        two, three = group(TABLE, COINS), group(TABLE, COINS, WATCHES)
        self.check(group(two, two, group(TABLE)), None)
        self.check(group(three, three), None)
        self.check(group(three, group(TABLE), TABLE), None)
        self.check(group(two, two, two), ((2, 1), "many"))
        self.check(group(three, three, TABLE), ((2,), "many"))
        self.check(group(three, three, three), ((2,), "many"))
        self.check(group(TABLE, three, three), ((2, 2), "many"))
        self.check(group(three, group(TABLE), two), ((2, 1), "many"))

    def test_many_ahead_of_all_else(self):
        three = group(TABLE, COINS, WATCHES)
        for wrong in (("row", 5), None, ("game", (9,)), ("saying", S, ())):
            self.check(group(three, three, wrong), ((2,), "many"))
            self.check(group(group(TABLE, COINS), group(TABLE, COINS), group(TABLE, wrong)), ((2, 1), "many"))
            # The ninth one is looked at.
            word = "kind" if type(wrong) is not tuple or wrong == ("row", 5) else wrong[0]
            self.check(group(three, group(TABLE, COINS, wrong)), ((1, 2), word))
        # The tenth one would be too deep, too; the ninth one is.
        self.check(group(three, group(TABLE, COINS, group(TABLE))), ((1, 2, 0), "many"))
        self.check(group(three, group(TABLE, group(TABLE), COINS)), ((1, 1, 0), "deep"))

    def test_several_things_wrong(self):
        three = group(TABLE, COINS, WATCHES)
        self.check(group(three, group(("row", 5), TABLE, TABLE), three), ((1, 0), "kind"))
        self.check(group(group(group(TABLE), ("row", 5)), ("game", (9,))), ((0, 0, 0), "deep"))
        self.check(("saying", ("told", 2, 21), (("row", 5), group(group(group(TABLE))))), ((), "saying"))

    def test_table_has_to_be_least(self):
        for table in small_tables(2, 2) + [longer(table, 1, 1) for table in TABLES]:
            wanted = None if least_by_look(table) else ((), "table")
            self.check(("table", table), wanted)

    def test_by_name(self):
        self.by_name(maker_error, None, value=A)
        self.by_name(maker_error, ((), "kind"), value=("row", 5))


def least_by_look(table):
    """Whether a small table is least, told by the ends of its parts and by its turn."""
    head, turn = table
    shorter = any(turn[:size] * (len(turn) // size) == turn for size in range(1, len(turn)))
    return not shorter and (head == "" or head[-1] != turn[-1])


class Made(Case):
    def test_examples(self):
        self.assert_same(made(A), ("1010", "1"))
        self.assert_same(made(B), ("", "10"))

    def test_against_the_functions(self):
        for maker in ALL_MAKERS:
            self.assert_same(self.quick(made, maker), plain_made(maker))

    def test_known(self):
        self.assert_same(made(TABLE), ("", "01"))
        self.assert_same(made(WATCHES), ("", "111010"))
        self.assert_same(made(("coins", ((6,), ((4, 1),)))), ("", "100010"))
        self.assert_same(made(("web", WEB)), ("10010", "1"))
        self.assert_same(made(("web", LASSO)), ("0", "01"))
        self.assert_same(made(("game", (2, 3))), ("", "11000"))
        self.assert_same(made(("book", BOOK_OF_TWO, 0)), ("00", "001"))
        self.assert_same(made(("book", BOOK_OF_TWO, 1)), ("", "001"))
        self.assert_same(made(("program", P, "yes")), ("", "10"))
        self.assert_same(made(("program", P, "no")), ("", "01"))
        self.assert_same(made(("program", P, "never")), EMPTY)
        self.assert_same(made(("row", FIB, 0)), ("", "100"))
        self.assert_same(made(NOT_EVEN), ("", "01"))
        self.assert_same(made(group(A, B)), ("", "10"))

    def test_makers_in_sayings_in_order(self):
        for tables in itertools.permutations((just((1,)), just((2,)), just((3,)))):
            makers = tuple(("table", table) for table in tables)
            for index in (0, 1, 2):
                self.assert_same(made(("saying", ("told", index, 0), makers)), tables[index])

    def test_bad_makers(self):
        for function in (made, lambda value: same_made(value, TABLE), lambda value: same_made(TABLE, value),
                         lambda value: parted(value, TABLE), lambda value: parted(TABLE, value)):
            for value in BAD + NO_KIND + [wrongs[-1] for wrongs in WRONG.values()]:
                with self.assertRaises(BadMaker) as caught:
                    function(value)
                self.assert_same((caught.exception.path, caught.exception.word), maker_error(value))
                self.assertIsInstance(caught.exception, RoundError)

    def test_bad_path_and_word(self):
        with self.assertRaises(BadMaker) as caught:
            made(group(TABLE, group(COINS, ("game", (9,)))))
        self.assert_same((caught.exception.path, caught.exception.word), ((1, 1), "game"))

    def test_too_great(self):
        for maker in GREAT:
            self.assertRaises(TooGreat, made, maker)
            self.assertRaises(TooGreat, made, group(TABLE, maker))
            self.assertRaises(TooGreat, made, group(TABLE, COINS, maker))

    def test_too_great_of_makers_in_a_saying(self):
        # Told of one maker that the saying does not ask for.
        for maker in GREAT:
            self.assertRaises(TooGreat, made, ("saying", S, (TABLE, maker)))
            self.assertRaises(TooGreat, made, ("saying", ("told", 1, 0), (maker, TABLE)))

    def test_bad_ahead_of_too_great(self):
        for maker in GREAT:
            for value in BAD:
                self.assertRaises(BadMaker, made, group(maker, value))
                self.assertRaises(BadMaker, made, group(value, maker))

    def test_at_the_bounds(self):
        full = ("table", ("1" * 4999 + "0", "0" * 4999 + "1"))
        self.assert_same(self.quick(made, full), full[1])
        self.quick(made, ("saying", ("not", ("some", ("not", S))), (full,)))
        self.quick(made, ("watches", ((200, 60), (199, 59), (3, 1))))
        self.quick(made, ("book", (3, tuple((k % 3, 2, ((k + 1) % 3, 2)) for k in range(2)) + ((2, 2, ()),)), 0))
        self.quick(made, ("row", (7, (0, 1, 1, 4), (0, 0, 0, 1)), 3))
        self.quick(made, ("coins", ((29, 30), tuple((coin, 20) for coin in (25, 26, 27, 28)))))

    def test_by_name(self):
        self.by_name(made, ("1010", "1"), maker=A)


class SameAndParted(Case):
    def test_examples(self):
        self.assert_same(parted(A, B), (5, 0))
        self.assert_same(parted(B, A), (5, 1))
        self.assert_same(same_made(A, B), False)

    def test_all_pairs(self):
        for one, other in itertools.product(ALL_MAKERS, repeat=2):
            left, right = plain_made(one), plain_made(other)
            self.assert_same(same_made(one, other), left == right)
            self.assert_same(parted(one, other), self.plain_parted(left, right))

    def plain_parted(self, left, right):
        far = max(len(left[0]), len(right[0])) + len(left[1]) + len(right[1])
        for n in range(far):
            if sign(left, n) != sign(right, n):
                return n, 0 if sign(left, n) == "1" else 1
        return None

    def test_unlike_kinds_of_one_table(self):
        even = [("table", ("", "10")), ("watches", ((0, 2),)), ("coins", ((2,), ())), ("game", (1,)),
                ("web", (2, ((0, 1), (1, 0)), (0,))), ("program", P, "yes"), ("row", (2, (0, 1), (0, 1)), 0),
                ("book", (1, ((0, 0, ()), (0, 2, (0,)))), 0), ("saying", ("not", S), (TABLE,))]
        self.assertEqual(sorted(maker[0] for maker in even), sorted(KINDS))
        for one, other in itertools.product(even, repeat=2):
            self.assert_same(self.quick(same_made, one, other), True)
            self.assert_same(self.quick(parted, one, other), None)
            self.assert_same(same_made(one, group(other, TABLE)), False)

    def test_far(self):
        one, other = ("table", ("0" * 4999 + "1", "0")), ("table", EMPTY)
        self.assert_same(self.quick(parted, one, other), (4999, 0))
        self.assert_same(self.quick(parted, other, one), (4999, 1))
        one, other = ("table", ("", "0" * 4999 + "1")), ("table", ("", "0" * 4998 + "1"))
        self.assert_same(self.quick(parted, one, other), (4998, 1))

    def test_errors_in_order(self):
        for function in (same_made, parted):
            for great in GREAT:
                self.assertRaises(TooGreat, function, great, TABLE)
                self.assertRaises(TooGreat, function, TABLE, great)
                for bad in BAD:
                    # Both of one come ahead of both of other.
                    self.assertRaises(TooGreat, function, great, bad)
                    self.assertRaises(BadMaker, function, bad, great)
            with self.assertRaises(BadMaker) as caught:
                function(("game", (9,)), ("row", 5))
            self.assert_same((caught.exception.path, caught.exception.word), ((), "game"))

    def test_by_name(self):
        self.by_name(same_made, False, one=A, other=B)
        self.by_name(parted, (5, 0), one=A, other=B)


def plain_own(table, far):
    """The told numbers from 1 on that are no sum of two such, below far; None if not closed."""
    numbers = {n for n in range(far) if sign(table, n) == "1"}
    if 0 not in numbers or any(m + n < far and m + n not in numbers for m in numbers for n in numbers):
        return None
    parts = numbers - {0}
    return tuple(sorted(parts - {m + n for m in parts for n in parts}))


class LeastMakers(Case):
    def check(self, table):
        found = self.quick(least_makers, table)
        self.assertEqual(len(found), 3)
        coins, game, web = found
        own = plain_own(table, 2 * (len(table[0]) + len(table[1])) + 40)
        fits = own is not None and 1 <= len(own) <= 6 and own[-1] <= 30
        self.assert_same(coins, ("coins", (own, ())) if fits else None)
        games = games_for(table)
        self.assert_same(game, ("game", games[0]) if games else None)
        short = len(plain_least(table)[0]) + len(plain_least(table)[1]) <= 12
        self.assert_same(web, ("web", lasso(table)) if short else None)
        for maker in found:
            if maker is not None:
                self.assert_same(made(maker), plain_least(table))
        return found

    def test_example(self):
        self.assert_same(least_makers(("", "1100")),
                         (None, ("game", (2,)), ("web", (4, ((0, 1), (1, 2), (2, 3), (3, 0)), (0, 1)))))

    def test_small_tables(self):
        for table in small_tables(2, 3) + TABLES:
            self.check(table)

    def test_empty_and_all(self):
        self.assert_same(self.check(EMPTY), (None, None, ("web", (1, ((0, 0),), ()))))
        coins, game, web = self.check(ALL)
        self.assert_same((coins, game, web), (("coins", ((1,), ())), None, ("web", (1, ((0, 0),), (0,)))))
        self.assert_same(self.check(("1", "0")), (None, None, ("web", (2, ((0, 1), (1, 1)), (0,)))))

    def test_closed_tables(self):
        picker = random.Random(331)
        for many in (1, 2, 3, 4, 5, 6):
            for _ in range(6):
                free = tuple(sorted(picker.sample(range(1, 31), many)))
                coins, _, _ = self.check(paid((free, ())))
                self.assertIsNotNone(coins)
                self.assertTrue(set(coins[1][0]) <= set(free))

    def test_own_coins_at_30_and_above(self):
        for free, fits in (((30,), True), ((31,), False), ((29, 30), True), ((29, 31), False), ((2, 29), True),
                           ((2, 31), False), ((30, 60), True), ((5, 45), True), ((7, 40), False), ((60,), False)):
            found = self.quick(least_makers, star(just(free)))
            self.assertEqual(found[0] is not None, fits)

    def test_few_and_many_own_coins(self):
        for low, many in ((5, 5), (6, 6), (7, 7), (8, 8), (20, 20)):
            # All from low on: as many own coins as low.
            table = ("1" + "0" * (low - 1), "1")
            coins, _, _ = self.quick(least_makers, table)
            self.assertEqual(coins is not None, many <= 6)
            if coins is not None:
                self.assert_same(coins, ("coins", (tuple(range(low, 2 * low)), ())))

    def test_games(self):
        picker = random.Random(332)
        for _ in range(25):
            game = tuple(sorted(picker.sample(range(1, 9), picker.randint(1, 6))))
            found = self.check(lost(game))[1]
            self.assertIsNotNone(found)
            self.assertLessEqual(found[1], game)

    def test_webs_of_12_and_13_signs(self):
        for head in (0, 1, 6, 11):
            for size in (12, 13):
                table = ("1" * (head - 1) + "0" if head else "", "0" * (size - head - 1) + "1")
                found = self.check(table)[2]
                self.assertEqual(found is not None, size == 12)
                if found is not None:
                    self.assert_same(walked(found[1]), table)
                self.assert_same(least_makers(longer(table, 3, 2)), least_makers(table))

    def test_tables_in_many_forms(self):
        for table in TABLES + [("", "1100"), paid(((3, 5), ()))]:
            for form in (longer(table, 1, 1), longer(table, 5, 2), longer(table, 0, 7)):
                self.assert_same(self.quick(least_makers, form), least_makers(table))

    def test_long_tables(self):
        for table in (("1" + "0" * 4998, "1"), ("1" * 5000, "0"), ("0" * 4999 + "1", "0"), ("", prime_turn(5000)),
                      ("1" + "0" * 4999, "0" * 4999 + "1"), each_step(0, 5000)):
            self.quick(least_makers, table)

    def test_by_name(self):
        self.by_name(least_makers, least_makers(("", "1100")), table=("", "1100"))


class WholeMakers(Case):
    def test_makers_of_one_set_are_alike(self):
        for maker in PLAIN + SAYINGS:
            table = made(maker)
            others = [("table", table), ("saying", S, (("table", table),))]
            others += [other for other in least_makers(table) if other is not None]
            for other in others:
                self.assert_same(made(other), table)
                self.assert_same(parted(maker, other), None)
            self.assertFalse(same_made(maker, ("saying", ("not", S), (others[0],))))

    def test_kinds_are_all_there(self):
        self.assertEqual({maker[0] for maker in ALL_MAKERS}, set(KINDS))
        self.assertEqual(set(WRONG), set(KINDS))
        for maker in (DEEP, BOTH, ("program", ADDING, "never"), ("book", BOOK, 0)):
            self.assertIsNone(maker_error(maker))
        self.assertGreater(len(VALUES), 30)


if __name__ == "__main__":
    unittest.main()
