import itertools
import random
import unittest
from functools import lru_cache

from leastmakers.games import (
    best, game_error, games_for, is_lost, longest_turn, lost, lost_holds, lost_last, may_come,
    needless, of_worth, slim, worth, worths)
from leastmakers.tables import ALL, EMPTY, just
from reckoning import VALUES, Case, from_numbers, longer, plain_least, sign, small_tables, told

G = (2, 3)
GAMES = [game for many in range(1, 9) for game in itertools.combinations(range(1, 9), many)]
SOME = [(1,), (2,), (8,), (1, 2), (2, 3), (1, 8), (7, 8), (2, 5, 7), (1, 4, 7, 8), (3, 4, 5), (2, 4, 6, 8),
        (1, 3, 5, 7), (1, 2, 3, 4, 5, 6, 7, 8), (4, 5, 6, 7, 8), (2, 3, 7), (3, 5, 8)]
RULES = ("last wins", "last loses")


@lru_cache(maxsize=None)
def plain_worths(game, many):
    """The worths of the first so many numbers."""
    found = []
    for number in range(many):
        ahead = {found[number - take] for take in game if take <= number}
        found.append(min(set(range(10)) - ahead))
    return tuple(found)


@lru_cache(maxsize=None)
def plain_lost(game, many, rule):
    """For the first so many numbers whether whoever is to move loses."""
    found = []
    for number in range(many):
        ahead = [found[number - take] for take in game if take <= number]
        found.append(not any(ahead) if ahead else rule == "last wins")
    return tuple(found)


class Search:
    """Who loses with several heaps, by all moves."""

    def __init__(self, game, rule):
        self.game, self.rule, self.known = game, rule, {}

    def moves(self, heaps):
        for index, heap in enumerate(heaps):
            for take in self.game:
                if take <= heap:
                    yield (index, take), heaps[:index] + (heap - take,) + heaps[index + 1:]

    def is_lost(self, heaps):
        key = tuple(sorted(heaps))
        if key not in self.known:
            after = [self.is_lost(left) for _, left in self.moves(key)]
            self.known[key] = not any(after) if after else self.rule == "last wins"
        return self.known[key]

    def best(self, heaps):
        fitting = [move for move, left in self.moves(heaps) if self.is_lost(left)]
        return min(fitting) if fitting else None


class GameError(Case):
    def check(self, value, word):
        self.check_value(game_error, value, word)

    def test_games(self):
        for game in GAMES:
            self.check(game, None)

    def test_other_values(self):
        for value in VALUES + ([2, 3], {2: 3}, "23", (3, 2), (2, 2), (1, 2, 2), (1, 3, 2), ((2, 3),), (2, "3"),
                               (2, None), (2, (3,)), (0,), (0, 1), (9,), (1, 9), (8, 9), (-1,), (-1, 2), (True,),
                               (True, 2), (2, True), (False, 1), (10 ** 39,), (1, 2, 3, 4, 5, 6, 7, 8, 8),
                               (1, 2, 3, 4, 5, 6, 7, 8, 9), (0, 1, 2, 3, 4, 5, 6, 7, 8), ()):
            self.check(value, "game")

    def test_by_name(self):
        self.by_name(game_error, None, value=G)
        self.by_name(game_error, "game", value=(3, 2))


class Lost(Case):
    def test_examples(self):
        self.assertEqual([lost(G), lost_last(G), worths(G), of_worth(G, 2), worth(G, 10 ** 18)],
                         [("", "11000"), ("", "00110"), ((), (0, 0, 1, 1, 2)), ("", "00001"), 0])

    def test_all_games(self):
        for game in GAMES:
            for function, rule in ((lost, "last wins"), (lost_last, "last loses")):
                found = self.quick(function, game)
                text = "".join("1" if one else "0" for one in plain_lost(game, 600, rule))
                self.assertEqual("".join(sign(found, n) for n in range(600)), text)
                self.assertEqual(found, plain_least(found))
                self.assertLessEqual(len(found[0]) + len(found[1]), 2 ** 8 + 8)
                self.assertEqual(found, self.shortest(text))

    def shortest(self, text):
        """The table of the first turn that fits from 300 signs on."""
        for size in range(1, 150):
            if text[300:-size] == text[300 + size:]:
                return from_numbers({n for n in range(600) if text[n] == "1"}, 300, size)
        raise AssertionError("no turn of so many signs")

    def test_one_take(self):
        for take in range(1, 9):
            self.assertEqual(lost((take,)), ("", "1" * take + "0" * take))
            self.assertEqual(lost_last((take,)), ("", "0" * take + "1" * take))

    def test_guarantees(self):
        for game in GAMES:
            self.assertEqual(lost(game), of_worth(game, 0))
            self.assertEqual(lost_last(game), of_worth(game, 1))

    def test_by_name(self):
        self.by_name(lost, ("", "11000"), game=G)
        self.by_name(lost_last, ("", "00110"), game=G)


class LostHolds(Case):
    def check(self, game, value):
        wanted = self.plain_holds(game, value)
        self.check_holds(lost_holds, wanted, game, value)
        return wanted

    def plain_holds(self, game, value):
        """By the guarantee: each number below the lengths and the greatest take is looked at."""
        if type(value) is not tuple or len(value) != 2 or not all(type(item) is str for item in value):
            return False
        head, turn = value
        if set(head + turn) - {"0", "1"} or not turn or len(head) > 5000 or len(turn) > 5000:
            return False
        for number in range(len(head) + len(turn) + game[-1]):
            leads = any(sign(value, number - take) == "1" for take in game if take <= number)
            if (sign(value, number) == "1") == leads:
                return False
        return True

    def test_least_tables_and_others(self):
        picker = random.Random(101)
        for game in GAMES:
            table = lost(game)
            self.assertTrue(self.check(game, table))
            for more, times in ((picker.randint(0, 30), picker.randint(1, 5)), (1, 1), (0, 7)):
                self.assertTrue(self.check(game, longer(table, more, times)))
            self.assertFalse(self.check(game, list(table)))
            self.assertFalse(self.check(game, table + ("0",)))
            self.assertFalse(self.check(game, lost_last(game)))

    def test_a_sign_turned(self):
        for game in SOME:
            head, turn = longer(lost(game), 9, 2)
            text = head + turn
            for place in range(len(text)):
                changed = text[:place] + ("0" if text[place] == "1" else "1") + text[place + 1:]
                self.assertFalse(self.check(game, (changed[:9], changed[9:])))
                self.assertFalse(self.check(game, (changed, turn)))

    def test_small_tables(self):
        for game in SOME:
            for table in small_tables(3, 6):
                self.check(game, table)

    def test_long_tables(self):
        table = longer(lost((1, 2)), 5000, 1666)
        self.assertIs(self.quick(lost_holds, (1, 2), table), True)
        self.assertIs(lost_holds((1, 2), (table[0], table[1][:-1])), False)
        self.assertIs(lost_holds((1, 2), (table[0] + "0", table[1])), False)
        self.assertIs(lost_holds((1,), ("", "10" * 2500)), True)
        self.assertIs(lost_holds((1,), ("", "10" * 2501)), False)
        self.assertIs(lost_holds((1,), ("10" * 2500, "10")), True)
        self.assertIs(lost_holds((1,), ("10" * 2501, "10")), False)
        self.assertIs(lost_holds((1,), ("10" * 2499 + "11", "10")), False)

    def test_other_values(self):
        for game in ((1,), G, (8,)):
            for value in VALUES + (["", "10"], ("10",), ("", "10", ""), "10", {"": "10"}, ("", ["1", "0"]),
                                   ("", ""), ("", "12"), ("x", "10"), (None, "10"), ("", 10), (("",), "10")):
                self.check(game, value)
        self.assertTrue(self.check((2,), ("11", "0011")))
        self.assertFalse(self.check(G, EMPTY))
        self.assertFalse(self.check(G, ALL))

    def test_by_name(self):
        self.by_name(lost_holds, True, game=(2,), value=("11", "0011"))
        self.by_name(lost_holds, False, game=(2,), value=["11", "0011"])


class Worths(Case):
    def test_all_games(self):
        for game in GAMES:
            plain = plain_worths(game, 600)
            head, turn = self.quick(worths, game)
            self.assertIs(type(head), tuple)
            self.assertIs(type(turn), tuple)
            self.assertTrue(all(type(item) is int for item in head + turn))
            self.assertEqual((head + turn * 600)[:600], plain)
            # The shortest turn, then the shortest head.
            size = next(k for k in range(1, 200) if plain[300:600 - k] == plain[300 + k:])
            start = next(n for n in range(600) if plain[n:600 - size] == plain[n + size:])
            self.assertEqual((len(head), len(turn)), (start, size))
            self.assertLessEqual(len(head), 13)
            self.assertLessEqual(len(turn), 25)

    def test_worth(self):
        for game in GAMES:
            plain = plain_worths(game, 600)
            for number in list(range(40)) + [100, 313, 599]:
                self.assert_same(worth(game, number), plain[number])

    def test_far_numbers(self):
        picker = random.Random(102)
        for game in SOME + picker.sample(GAMES, 40):
            plain = plain_worths(game, 600)
            size = next(k for k in range(1, 200) if plain[300:600 - k] == plain[300 + k:])
            for number in (10 ** 18, 10 ** 18 - 1, 10 ** 18 - 7, picker.randint(600, 10 ** 18)):
                self.assert_same(self.quick(worth, game, number), plain[300 + (number - 300) % size])

    def test_of_worth(self):
        for game in SOME:
            plain = plain_worths(game, 600)
            for wanted in range(10):
                found = self.quick(of_worth, game, wanted)
                self.assertEqual(told(found, 600), {n for n in range(600) if plain[n] == wanted})
                self.assertEqual(found, plain_least(found))
            for wanted in (9, 10, 12, 10 ** 18):
                self.assert_same(of_worth(game, wanted), EMPTY)

    def test_worths_at_the_bound(self):
        game = (1, 2, 3, 4, 5, 6, 7, 8)
        self.assert_same(worths(game), ((), (0, 1, 2, 3, 4, 5, 6, 7, 8)))
        self.assert_same(of_worth(game, 8), ("", "000000001"))
        self.assert_same(of_worth((8,), 1), ("", "0" * 8 + "1" * 8))

    def test_by_name(self):
        self.by_name(worth, 0, game=G, number=10 ** 18)
        self.by_name(worths, ((), (0, 0, 1, 1, 2)), game=G)
        self.by_name(of_worth, ("", "00001"), game=G, worth=2)


class Heaps(Case):
    def check(self, search, heaps):
        found = is_lost(search.game, heaps, search.rule)
        self.assert_same(found, search.is_lost(heaps))
        self.assert_same(best(search.game, heaps, search.rule), search.best(heaps))

    def test_examples(self):
        self.assertEqual([is_lost(G, (4, 7), "last wins"), best(G, (4, 7), "last wins"),
                          best(G, (4, 7), "last loses"), is_lost(G, (2, 1), "last loses"),
                          best(G, (1, 0), "last wins")], [False, (0, 2), (0, 3), True, None])

    def test_one_heap(self):
        for game in GAMES:
            for rule in RULES:
                plain = plain_lost(game, 60, rule)
                for number in range(0, 60, 2):
                    self.assert_same(is_lost(game, (number,), rule), plain[number])

    def test_two_heaps(self):
        for game in SOME:
            for rule in RULES:
                search = Search(game, rule)
                for heaps in itertools.product(range(13), repeat=2):
                    self.check(search, heaps)

    def test_three_and_four_heaps(self):
        for game in SOME:
            for rule in RULES:
                search = Search(game, rule)
                picker = random.Random(103)
                for heaps in itertools.product(range(5), repeat=3):
                    self.check(search, heaps)
                for _ in range(40):
                    self.check(search, tuple(picker.randint(0, 8) for _ in range(4)))

    def test_five_to_eight_heaps(self):
        picker = random.Random(104)
        for game in ((1,), (2,), (1, 2), (2, 3), (1, 3), (2, 5, 7), (1, 2, 3, 4)):
            for rule in RULES:
                search = Search(game, rule)
                for many in (5, 6, 7, 8):
                    for _ in range(12):
                        self.check(search, tuple(picker.randint(0, 4) for _ in range(many)))
                    self.check(search, (1,) * many)
                    self.check(search, (0,) * many)
                    self.check(search, (2,) * (many - 1) + (3,))

    def test_great_heaps(self):
        picker = random.Random(105)
        for game in SOME:
            plain = plain_worths(game, 600)
            size = next(k for k in range(1, 200) if plain[300:600 - k] == plain[300 + k:])
            for rule in RULES:
                for many in (1, 2, 3, 8):
                    heaps = tuple(10 ** 18 - picker.randint(0, 60) for _ in range(many))
                    near = tuple(300 + (heap - 300) % size for heap in heaps)
                    total, most = 0, 0
                    for heap in near:
                        total, most = total ^ plain[heap], max(most, plain[heap])
                    wanted = total == (1 if rule == "last loses" and most < 2 else 0)
                    self.assert_same(self.quick(is_lost, game, heaps, rule), wanted)
                    move = self.quick(best, game, heaps, rule)
                    if wanted:
                        self.assertIsNone(move)
                    else:
                        self.check_first(game, heaps, rule, move)

    def check_first(self, game, heaps, rule, move):
        """The move leads to lost heaps, and none ahead of it does."""
        for index, heap in enumerate(heaps):
            for take in game:
                left = heaps[:index] + (heap - take,) + heaps[index + 1:]
                self.assertEqual(is_lost(game, left, rule), (index, take) == move)
                if (index, take) == move:
                    return

    def test_no_move_is_there(self):
        for heaps in ((0,), (0, 0), (1, 0), (1, 1, 1), (0,) * 8):
            self.assert_same([is_lost(G, heaps, rule) for rule in RULES], [True, False])
            self.assert_same([best(G, heaps, rule) for rule in RULES], [None, None])

    def test_by_name(self):
        self.by_name(is_lost, False, game=G, heaps=(4, 7), rule="last wins")
        self.by_name(best, (0, 3), game=G, heaps=(4, 7), rule="last loses")


class Takes(Case):
    def test_examples(self):
        self.assertEqual([may_come(G, 9), needless((2, 3, 7)), slim((2, 3, 7)), games_for(("", "1100")),
                          longest_turn(2), lost_holds((2,), ("11", "0011"))],
                         [(7, 8), (7,), (2, 3), ((2,), (2, 6)), (4, (2,)), True])

    def test_may_come(self):
        for game in GAMES:
            plain = plain_lost(game, 200, "last wins")
            wanted = tuple(take for take in range(1, 31) if take not in game and
                           plain_lost(tuple(sorted(game + (take,))), 200, "last wins") == plain)
            self.assert_same(may_come(game, 30), wanted)
            self.assert_same(may_come(game, 8), tuple(take for take in wanted if take <= 8))

    def test_may_come_to_1000(self):
        for game in SOME:
            found = self.quick(may_come, game, 1000)
            numbers = [n for n, one in enumerate(plain_lost(game, 1200, "last wins")) if one]
            apart = {n - m for m in numbers if m < 200 for n in numbers if n >= m}
            self.assert_same(found, tuple(take for take in range(1, 1001)
                                          if take not in game and take not in apart))
            for most in (0, 1, 2, 500, 999):
                self.assert_same(may_come(game, most), tuple(take for take in found if take <= most))

    def test_all_that_may_come_come_together(self):
        for game in SOME:
            more = tuple(sorted(game + may_come(game, 40)))
            self.assertEqual(plain_lost(more, 300, "last wins"), plain_lost(game, 300, "last wins"))

    def test_needless_and_slim(self):
        rows = {game: plain_lost(game, 200, "last wins") for game in GAMES}
        for game in GAMES:
            wanted = tuple(take for take in game if len(game) > 1 and
                           rows[tuple(other for other in game if other != take)] == rows[game])
            self.assert_same(self.quick(needless, game), wanted)
            within = [(len(other), other) for other in GAMES
                      if set(other) <= set(game) and rows[other] == rows[game]]
            self.assert_same(self.quick(slim, game), min(within)[1])

    def test_games_for(self):
        rows = {}
        for game in GAMES:
            rows.setdefault(plain_lost(game, 200, "last wins"), []).append(game)
        for games in rows.values():
            table = lost(games[0])
            self.assert_same(self.quick(games_for, table), tuple(sorted(games)))
            self.assert_same(games_for(longer(table, 7, 3)), tuple(sorted(games)))
        for table in (EMPTY, ALL, ("", "01"), ("1", "0"), just((0, 4999)), ("1" * 5000, "1" * 4999 + "0"),
                      ("1", "10"), ("11", "10")):
            self.assert_same(self.quick(games_for, table), ())

    def test_longest_turn(self):
        for most in range(1, 9):
            sizes = {}
            for game in GAMES:
                if game[-1] <= most:
                    sizes.setdefault(len(lost(game)[1]), []).append(game)
            length = max(sizes)
            self.assert_same(self.quick(longest_turn, most), (length, min(sizes[length])))
            self.assertEqual(length, {7: 22, 8: 25}.get(most, 2 * most))

    def test_by_name(self):
        self.by_name(may_come, (7, 8), game=G, most=9)
        self.by_name(needless, (7,), game=(2, 3, 7))
        self.by_name(slim, (2, 3), game=(2, 3, 7))
        self.by_name(games_for, ((2,), (2, 6)), table=("", "1100"))
        self.by_name(longest_turn, (4, (2,)), most=2)


if __name__ == "__main__":
    unittest.main()
