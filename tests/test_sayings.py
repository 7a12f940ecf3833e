import itertools
import random
import unittest

from leastmakers.counts import kth
from leastmakers.errors import RoundError, TooGreat
from leastmakers.sayings import saying_error, shown_at, truth
from leastmakers.tables import ALL, EMPTY, each_step, has, just
from reckoning import VALUES, Case, longer, plain_least, prime_turn, sign
from sayingforms import (
    SHOWN, TABLES, WORDS, S, U, cases, depth, highest, in_order, inner, one_in_another, other_forms, plain_truths,
    random_saying, size_of)

A = ("", "01")
B = ("0001", "0")
TILL = ("till", ("not", ("told", 0, 0)), ("told", 1, 0))

NO_INTEGERS = (None, True, False, "", "0", "1", (), (0,), [], [0], {}, {0: 0})
NO_SAYINGS = (None, True, False, 0, 1, "", "told", "not", (), ("",), ("told",), ["told", 0, 0], [], {}, ("tell", 0, 0),
              ("told", 0), ("told", 0, 0, 0), (("told", 0, 0),), ("Told", 0, 0), ("not",), ("told", 3, 0), 10 ** 39)


def chain(word, many):
    """A saying of this word, with one saying behind it, so many deep."""
    saying = S
    for _ in range(many - 1):
        saying = (word, saying)
    return saying


def wide(words):
    """A saying of so many words that is not deep."""
    saying = S
    rest = words - 1
    parts = [S]
    while rest >= 2:
        parts.append(S)
        rest -= 2
    while len(parts) > 1:
        parts = [("and", *parts[k:k + 2]) if len(parts[k:k + 2]) == 2 else parts[k]
                 for k in range(0, len(parts), 2)]
    saying = parts[0]
    return ("not", saying) if rest else saying


class SayingError(Case):
    def check(self, value, word):
        self.check_value(saying_error, value, word)

    def test_sayings(self):
        for saying, _ in cases(301, 200):
            self.check(saying, None)
        for saying in one_in_another():
            self.check(saying, None)

    def test_bounds_of_told(self):
        for index in (0, 1, 2):
            for number in (0, 1, 19, 20):
                self.check(("told", index, number), None)
                self.check(("not", ("told", index, number)), None)
        for wrong in NO_INTEGERS + (-1, 3, 4, 10 ** 39, -10 ** 39):
            self.check(("told", wrong, 0), "form")
            self.check(("or", S, ("told", wrong, 0)), "form")
        for wrong in NO_INTEGERS + (-1, 21, 22, 10 ** 39, -10 ** 39):
            self.check(("told", 0, wrong), "form")
            self.check(("till", ("told", 0, wrong), S), "form")

    def test_bounds_of_next(self):
        for number in (0, 1, 19, 20):
            self.check(("next", number, S), None)
        for wrong in NO_INTEGERS + (-1, 21, 22, 10 ** 39, -10 ** 39):
            self.check(("next", wrong, S), "form")
            self.check(("since", S, ("next", wrong, S)), "form")

    def test_each_item_wrong(self):
        for wrong in NO_SAYINGS:
            self.check(wrong, "form")
            self.check(("next", 1, wrong), "form")
            for word, many in WORDS.items():
                if word != "next":
                    for place in range(many):
                        items = [S] * many
                        items[place] = wrong
                        self.check((word, *items), "form")
                        self.check(("not", ("and", S, (word, *items))), "form")

    def test_how_many_items(self):
        for word, many in WORDS.items():
            for items in range(5):
                fits = items == many and word != "next"
                self.check((word,) + (S,) * items, None if fits else "form")
                self.check([word] + [S] * items, "form")
        for items in ((), (1,), (S,), (1, S, S), (S, 1), (1, 1)):
            self.check(("next",) + items, "form")
        for items in ((), (0,), (0, 0, 0), (S,), (0, S), (S, 0)):
            self.check(("told",) + items, "form")

    def test_words(self):
        for word in ("", "Not", "not ", "nots", "no", "tell", "always", None, 0, True, ("not",), ["not"], {}):
            self.check((word, S), "form")
            self.check((word, S, S), "form")
            self.check((word, 0, 0), "form")

    def test_deep(self):
        for word in ("not", "from", "some", "ahead"):
            for many in (1, 2, 5, 6):
                self.check(chain(word, many), None)
            for many in (7, 8, 12):
                self.check(chain(word, many), "deep")
        for one in (chain("not", 5), chain("not", 6)):
            word = None if depth(one) == 5 else "deep"
            for saying in (("and", S, one), ("or", one, S), ("next", 2, one), ("till", S, one), ("since", one, S)):
                self.check(saying, word)

    def test_many(self):
        for many in (1, 2, 15, 28, 29, 30):
            self.assertEqual(len(in_order(wide(many))), many)
            self.check(wide(many), None)
        for many in (31, 32):
            self.assertEqual(len(in_order(wide(many))), many)
            self.assertLessEqual(depth(wide(many)), 6)
            self.check(wide(many), "many")

    def test_as_many_as_6_deep_has(self):
        full = S
        for _ in range(4):
            full = ("since", full, full)
        self.assertEqual(len(in_order(full)), 31)
        self.check(full, "many")
        self.check(("or", full, full), "many")
        self.check(("or", ("or", full, full), S), "deep")

    def test_the_first_word_is_told(self):
        full = wide(31)
        deep = chain("not", 6)
        self.check(("and", full, deep), "deep")
        self.check(("and", full, ("not", 0)), "form")
        self.check(("and", chain("not", 8), ("told", 0, 21)), "form")
        self.check(("not", ("told", True, 0)), "form")

    def test_values_of_all_kinds(self):
        for value in VALUES:
            self.check(value, "form")
            self.check(("not", value), "form")

    def test_far_too_deep(self):
        saying = S
        for _ in range(11):
            saying = ("and", saying, saying)
        self.assertEqual(self.quick(saying_error, saying), "deep")

    def test_by_name(self):
        self.by_name(saying_error, None, value=TILL)
        self.by_name(saying_error, "form", value=("told", 0))


class Truth(Case):
    def check(self, saying, tables):
        """The table agrees with a plain look, so far that tables can't differ behind it."""
        head, turn = size_of(saying, tables)
        found = self.quick(truth, saying, tables)
        many = head + 2 * turn + 2
        self.assertEqual([sign(found, n) == "1" for n in range(many)], plain_truths(saying, tables, many))
        self.assertLessEqual(len(found[0]), head)
        self.assertEqual(turn % len(found[1]), 0)
        self.assert_table(found, found)
        return found

    def test_examples(self):
        self.assert_same(truth(("and", ("told", 0, 0), ("ahead", ("told", 1, 0))), (A, B)), ("0000", "01"))
        self.assert_same(truth(TILL, (A, B)), ("0011", "0"))
        self.assert_same(truth(("not", ("told", 0, 0)), (A,)), ("", "10"))

    def test_against_plain_look(self):
        for saying, tables in cases(302, 900, 6):
            self.check(saying, tables)

    def test_each_word_of_all_tables(self):
        for one, other in itertools.product(TABLES, repeat=2):
            for word, many in WORDS.items():
                saying = ("next", 3, S) if word == "next" else (word, S, U)[:many + 1]
                self.check(saying, (one, other)[:highest(saying) + 1])

    def test_next_and_told_far(self):
        for table in TABLES:
            for k in (0, 1, 2, 3, 19, 20):
                found = self.check(("next", k, S), (table,))
                self.assertEqual(found, self.check(("told", 0, k), (table,)))
                self.check(("next", 20, ("next", 20, ("next", k, ("ahead", S)))), (table,))

    def test_tables_in_many_forms(self):
        picker = random.Random(303)
        for saying, tables in cases(304, 120, 5):
            for _ in range(2):
                self.assert_same(truth(saying, other_forms(picker, tables)), truth(saying, tables))

    def test_tables_that_are_not_in_the_saying(self):
        for saying, tables in cases(305, 30):
            wanted = truth(saying, tables)
            while len(tables) < 3:
                tables = tables + (("0", "1"),)
                self.assert_same(truth(saying, tables), wanted)

    def test_as_deep_and_as_long_as_can_be(self):
        for word in ("not", "from", "some", "ahead"):
            self.check(chain(word, 6), (("0110", "01"),))
        self.check(wide(30), (("01", "100"),))
        full = S
        for _ in range(3):
            full = ("since", full, ("till", full, U))
        self.assertLessEqual(depth(full), 7)
        self.check(("till", ("since", S, U), ("since", ("since", U, S), ("ahead", S))), (("0110", "01"), A))

    def test_empty_and_full(self):
        for saying in one_in_another():
            for tables in itertools.product((EMPTY, ALL), repeat=2):
                self.check(saying, tables)

    def test_by_name(self):
        self.by_name(truth, ("0011", "0"), saying=TILL, tables=(A, B))


def back_words(many):
    """A saying with so many words "ahead" and "since"."""
    saying = S
    for k in range(many):
        saying = ("ahead", saying) if k % 2 == 0 else ("since", saying, S)
    return saying


class TooGreatExactly(Case):
    def check(self, saying, tables, fits):
        shown = ("some", saying)
        if fits:
            self.quick(truth, saying, tables)
            self.quick(shown_at, shown, tables, 10 ** 18)
        else:
            self.assertRaises(TooGreat, truth, saying, tables)
            self.assertRaises(TooGreat, shown_at, shown, tables, 10 ** 18)
            self.assertRaises(RoundError, shown_at, shown, tables, 0)

    def test_turns(self):
        for one, other, fits in ((4999, 1, True), (5000, 1, True), (71, 70, True), (71, 71, True), (71, 72, False),
                                 (2, 2500, True), (3, 1666, True), (3, 1667, False), (4, 1250, True), (8, 1250, True),
                                 (16, 1250, False), (5000, 3, False), (2500, 5000, True)):
            tables = (("", prime_turn(one) if one > 1 else "1"), ("", prime_turn(other) if other > 1 else "0"))
            for saying in (S, U, ("and", S, U), ("not", S)):
                self.check(saying, tables, fits)

    def test_three_turns(self):
        tables = (("", prime_turn(16)), ("", prime_turn(17)), ("", prime_turn(18)))
        self.check(S, tables, True)
        tables = (("", prime_turn(17)), ("", prime_turn(18)), ("", prime_turn(19)))
        self.check(S, tables, False)
        self.check(S, tables[:2], True)

    def test_heads(self):
        for many in range(6):
            for turn in (1, 2, 7, 600):
                head = 5000 - many * turn
                for more, fits in ((0, True), (1, False)):
                    if head + more <= 5000:
                        table = ("1" * (head + more - 1) + "0", "1" if turn == 1 else "0" * (turn - 1) + "1")
                        self.check(back_words(many), (table,), fits)
                        self.check(back_words(many), (ALL, table), fits)

    def test_heads_and_turns_of_unlike_tables(self):
        # The longest head is of one table, the turn of both together: 20 * 21 times 3.
        for head, fits in ((5000 - 3 * 420, True), (5000 - 3 * 420 + 1, False)):
            tables = (("1" * (head - 1) + "0", prime_turn(20)[::-1]), ("", prime_turn(21)))
            self.check(back_words(3), tables, fits)
            self.check(back_words(2), tables, True)

    def test_by_least_tables(self):
        for table, fits in ((("0" * 5000, "0" * 4999), True), (("1" * 5000, "01" * 2500), False),
                            (("1" * 4999, "01" * 2500), True), (("", ("0" * 70 + "1") * 70), True)):
            self.check(S, (table, A), True)
            self.check(back_words(1), (table,), fits)
        # 70 and 71 signs, as they are least: their forms here have longer turns.
        tables = (("", prime_turn(70) * 71), ("", prime_turn(71) * 70))
        self.check(("or", S, U), tables, True)

    def test_words_that_are_ahead_of_the_bound_alone_count(self):
        table = ("1" * 4999 + "0", "1")
        for saying in (S, ("not", S), ("next", 20, S), ("from", S), ("some", S), ("till", S, S), ("and", S, S),
                       ("or", S, S)):
            self.check(saying, (table,), True)
        for saying in (("ahead", S), ("since", S, S), ("not", ("ahead", S)), ("and", S, ("since", S, S))):
            self.check(saying, (table,), False)

    def test_of_shown_at_its_own_word_counts(self):
        table = ("1" * 4999 + "0", "1")
        for word in ("some", "from"):
            self.quick(shown_at, (word, S), (table,), 3)
        self.quick(shown_at, ("till", S, S), (table,), 3)
        self.assertRaises(TooGreat, shown_at, ("ahead", S), (table,), 3)
        self.assertRaises(TooGreat, shown_at, ("since", S, S), (table,), 3)

    def test_many_words_at_the_bound(self):
        full = ("till", ("since", ("till", S, U), ("or", S, U)), ("since", ("and", S, U), ("ahead", U)))
        tables = (("1" * 1400 + "0", prime_turn(100)[::-1]), ("", prime_turn(12)))
        self.check(full, tables, True)
        self.check(wide(30), (("1" * 4999 + "0", "0" * 4999 + "1"),), True)


def plain_shown(saying, tables, number):
    """What shown_at tells, by looking at numbers one by one."""
    head, turn = size_of(saying, tables)
    far = number + head + 2 * turn + 2
    word = saying[0]
    parts = [plain_truths(part, tables, far) for part in inner(saying)]
    one, other = parts[0], parts[-1]
    if word == "some":
        return next((n for n in range(number, far) if one[n]), None)
    if word == "from":
        return next((n for n in range(number, far) if not one[n]), None)
    if word == "ahead":
        return next((n for n in range(number - 1, -1, -1) if one[n]), None)
    if word == "till":
        found = next((n for n in range(number, far) if other[n]), None)
        return found if found is not None and all(one[number:found]) else None
    found = next((n for n in range(number, -1, -1) if other[n]), None)
    return found if found is not None and all(one[found + 1:number + 1]) else None


def shown_cases(seed, times):
    picker = random.Random(seed)
    found = [(saying, tables) for saying, tables in cases(seed, 0) if saying[0] in SHOWN]
    for _ in range(times):
        over = picker.choice((1, 2, 3))
        word = picker.choice(SHOWN)
        saying = (word, *(random_saying(picker, 3, over) for _ in range(WORDS[word])))
        found.append((saying, tuple(picker.choice(TABLES) for _ in range(over))))
    return found


class ShownAt(Case):
    def test_examples(self):
        self.assert_same(shown_at(TILL, (A, B), 2), 3)
        self.assert_same(shown_at(TILL, (A, B), 1), None)

    def test_against_plain_look(self):
        for saying, tables in shown_cases(306, 500):
            for number in (0, 1, 2, 3, 4, 5, 6, 9, 14, 15):
                self.assert_same(shown_at(saying, tables, number), plain_shown(saying, tables, number))

    def test_guarantee(self):
        for saying, tables in shown_cases(307, 80):
            table = truth(saying, tables)
            for number in list(range(20)) + [10 ** 18 - k for k in range(8)]:
                shown = self.quick(shown_at, saying, tables, number)
                self.assertEqual(shown is None, has(table, number) == (saying[0] == "from"))

    def test_far_numbers(self):
        # Far out what is shown is shown as it is at a like number near by.
        for saying, tables in shown_cases(308, 100):
            head, turn = size_of(saying, tables)
            for k in range(3):
                far = 10 ** 18 - k
                near = head + turn + (far - head) % turn
                shown = self.quick(shown_at, saying, tables, far)
                wanted = plain_shown(saying, tables, near)
                if wanted is not None and wanted >= head:
                    self.assert_same(shown, wanted + far - near)
                elif wanted is None or saying[0] != "since":
                    self.assert_same(shown, wanted)

    def test_known(self):
        self.assert_same(shown_at(("some", S), (just((5,)),), 5), 5)
        self.assert_same(shown_at(("some", S), (just((5,)),), 6), None)
        self.assert_same(shown_at(("some", S), (A,), 10 ** 18), 10 ** 18 + 1)
        self.assert_same(shown_at(("from", S), (A,), 10 ** 18), 10 ** 18)
        self.assert_same(shown_at(("from", S), (("0", "1"),), 0), 0)
        self.assert_same(shown_at(("from", S), (("0", "1"),), 1), None)
        self.assert_same(shown_at(("from", S), (ALL,), 10 ** 18), None)
        self.assert_same(shown_at(("ahead", S), (just((5,)),), 5), None)
        self.assert_same(shown_at(("ahead", S), (just((5,)),), 6), 5)
        self.assert_same(shown_at(("ahead", S), (just((0, 5)),), 10 ** 18), 5)
        self.assert_same(shown_at(("ahead", S), (ALL,), 10 ** 18), 10 ** 18 - 1)
        self.assert_same(shown_at(("ahead", S), (ALL,), 0), None)
        self.assert_same(shown_at(("since", S, U), (ALL, just((7,))), 10 ** 18), 7)
        self.assert_same(shown_at(("since", S, U), (ALL, just((7,))), 6), None)
        self.assert_same(shown_at(("since", S, U), (EMPTY, just((7,))), 7), 7)
        self.assert_same(shown_at(("since", S, U), (EMPTY, just((7,))), 8), None)
        self.assert_same(shown_at(("till", S, U), (ALL, each_step(0, 1000)), 10 ** 18 - 999), 10 ** 18)
        self.assert_same(shown_at(("till", S, U), (EMPTY, each_step(0, 1000)), 10 ** 18), 10 ** 18)
        self.assert_same(shown_at(("till", S, U), (EMPTY, each_step(0, 1000)), 10 ** 18 - 1), None)

    def test_tables_in_many_forms(self):
        picker = random.Random(309)
        for saying, tables in shown_cases(310, 30):
            for number in (0, 3, 10 ** 18):
                wanted = shown_at(saying, tables, number)
                self.assert_same(shown_at(saying, other_forms(picker, tables), number), wanted)

    def test_by_name(self):
        self.by_name(shown_at, 3, saying=TILL, tables=(A, B), number=2)


class Guarantees(Case):
    def test_of_what_sayings_follow(self):
        for saying, tables in cases(311, 40, 3):
            table = truth(saying, tables)
            self.assertEqual(truth(("not", ("some", ("not", saying))), tables), truth(("from", saying), tables))
            self.assertEqual(truth(("till", ("or", saying, ("not", saying)), saying), tables),
                             truth(("some", saying), tables))
            self.assertEqual(truth(("not", ("not", saying)), tables), table)
            told = truth(("told", 0, 5), (table,))
            self.assertEqual(told, truth(("next", 5, saying), tables))

    def test_of_till_and_since(self):
        picker = random.Random(312)
        for _ in range(60):
            one, other = random_saying(picker, 2, 3), random_saying(picker, 2, 3)
            tables = tuple(picker.choice(TABLES) for _ in range(3))
            till = ("till", one, other)
            self.assertEqual(truth(till, tables),
                             truth(("or", other, ("and", one, ("next", 1, till))), tables))
            since = truth(("since", one, other), tables)
            so, begins = truth(one, tables), truth(other, tables)
            self.assertEqual(has(since, 0), has(begins, 0))
            for n in range(60):
                self.assertEqual(has(since, n + 1), has(begins, n + 1) or (has(so, n + 1) and has(since, n)))

    def test_of_ahead(self):
        for saying, tables in cases(313, 30, 3):
            first = kth(truth(saying, tables), 0)
            wanted = EMPTY if first is None else plain_least(("0" * (first + 1), "1"))
            self.assertEqual(truth(("ahead", saying), tables), wanted)

    def test_long_tables(self):
        table = ("1" * 999 + "0", "0" * 1499 + "1")
        self.assert_same(self.quick(truth, ("some", S), (table,)), ALL)
        self.assert_same(self.quick(truth, ("from", S), (table,)), EMPTY)
        self.assert_same(self.quick(truth, ("ahead", ("not", S)), (table,)), ("0" * 1000, "1"))
        self.assert_same(self.quick(truth, ("told", 0, 20), (table,)), ("1" * 979 + "0", "0" * 1499 + "1"))
        self.assert_same(self.quick(truth, S, (longer(table, 7, 3),)), table)


if __name__ == "__main__":
    unittest.main()
