import itertools
import random
import unittest

from leastmakers.bookpapers import bar, bars, uses_hold
from leastmakers.books import derived
from leastmakers.coins import paid, pay_holds
from leastmakers.errors import BadMaker, RoundError, TooGreat
from leastmakers.games import lost, lost_holds
from leastmakers.makers import made, maker_error
from leastmakers.notes import notes
from leastmakers.papers import finding, finding_holds, paper, paper_holds
from leastmakers.programpapers import way_round, way_round_holds
from leastmakers.programs import answer
from leastmakers.tables import ALL, EMPTY, just
from leastmakers.webs import is_walk, reached
from makerforms import (
    ADDING, ALL_MAKERS, BOOK, BOOK_OF_TWO, BOTH, COINS, FIB, GREAT_BOOK, KINDS, NO_KIND, NOT_EVEN, SAYINGS, S, TABLE,
    WATCHES, WEB, WRONG, plain_made)
from programforms import P, Q
from reckoning import VALUES, Case, longer, prime_turn, row, sign

A = ("coins", ((2, 5), ()))
B = ("watches", ((0, 2),))
COVER = (("1", "0"), ("", "10"), ("1010", "1"))
NUMBERS = (0, 1, 2, 3, 4, 5, 6, 7, 11, 12, 29, 60, 100, 999, 1000)
GREAT = [("book", GREAT_BOOK, 0), ("watches", ((0, 59), (0, 58), (0, 57))),
         ("saying", ("ahead", S), (("table", ("1" * 4999 + "0", "1")),))]
BAD = [("row", 5), None, ("table", ("", "1010")), ("saying", S, (TABLE, ("game", (9,))))]

# What is no paper for anything, and no thing of one.
NO_THINGS = VALUES + (("yes",), ("no",), ("yes", None, None), ["yes", None], ["no", None], ("Yes", None),
                      ("maybe", None),
                      ("", None), (None, "yes"), (True, None), (("yes",), None), {"yes": None}, "yes", "no")


def is_told(maker, number):
    return sign(plain_made(maker), number) == "1"


def is_table(value):
    return (type(value) is tuple and len(value) == 2 and all(type(part) is str for part in value) and
            value[1] != "" and not set(value[0] + value[1]) - {"0", "1"} and max(map(len, value)) <= 5000)


def plain_is_cover(purse, value, far):
    """Whether value is a cover, by all numbers below far, which is far enough."""
    free, bounded = purse
    if type(value) is not tuple or len(value) != len(free) + len(bounded) + 1:
        return False
    if not all(map(is_table, value)) or sign(value[0], 0) != "1":
        return False
    told = [{n for n, mark in enumerate(row(table, far + 700)) if mark == "1"} for table in value]
    for coin, ahead, own in zip(free, told, told[1:]):
        if not all(n in own for n in ahead if n < far) or not all(n + coin in own for n in own if n < far):
            return False
    for (coin, times), ahead, own in zip(bounded, told[len(free):], told[len(free) + 1:]):
        if not all(n + k * coin in own for n in ahead if n < far for k in range(times + 1)):
            return False
    return True


def plain_is_trace(web, value):
    """Whether value is a trace, as the point on traces tells it."""
    if type(value) is not tuple or len(value) != 2:
        return False
    sets, again = value
    if type(sets) is not tuple or not 1 <= len(sets) <= 400:
        return False
    if type(again) is not int or not 0 <= again < len(sets):
        return False
    for spots in sets:
        if type(spots) is not tuple or not all(type(spot) is int and 0 <= spot < web[0] for spot in spots):
            return False
        if list(spots) != sorted(set(spots)):
            return False
    if 0 not in sets[0]:
        return False
    for place, spots in enumerate(sets):
        behind = sets[place + 1] if place + 1 < len(sets) else sets[again]
        if any(start in spots and spot not in behind for start, spot in web[1]):
            return False
    return True


def plain_set_at(trace, number):
    sets, again = trace
    while number >= len(sets):
        number -= len(sets) - again
    return sets[number]


def plain_holds(maker, number, value):
    """Whether value is a paper, kind by kind as the document lists it."""
    if type(value) is not tuple or len(value) != 2 or type(value[0]) is not str or value[0] not in ("yes", "no"):
        return False
    yes, thing, kind, item = value[0] == "yes", value[1], maker[0], maker[1]
    if kind == "table":
        head, turn = item
        place = number if number < len(head) else len(head) + (number - len(head)) % len(turn)
        return type(thing) is int and thing == place and (head + turn)[place] == ("1" if yes else "0")
    if kind == "watches":
        goes = [n for n, (first, turn) in enumerate(item) if number >= first and (number - first) % turn == 0]
        return type(thing) is int and thing in goes if yes else thing is None and not goes
    if kind == "coins":
        if yes:
            return pay_holds(item, number, thing)
        return plain_is_cover(item, thing, 400) and sign(thing[-1], number) == "0"
    if kind == "web":
        if yes:
            return is_walk(item, number, thing)
        return plain_is_trace(item, thing) and not set(plain_set_at(thing, number)) & set(item[2])
    if kind == "book":
        return (uses_hold if yes else bars)(item, maker[2], number, thing)
    if kind == "program":
        word, found = maker[2], answer(item, number)
        if word == "never":
            return way_round_holds(item, number, thing) if yes else thing is None and found != "never"
        if yes:
            return thing is None and found == word
        return (thing is None and found not in (word, "never")) or way_round_holds(item, number, thing)
    told = is_told(maker, number) == yes
    if kind == "game":
        return told and lost_holds(item, thing)
    if kind == "row":
        return told and thing is None
    wanted = notes(item, tuple(plain_made(part) for part in maker[2]))
    return told and type(thing) is tuple and thing == wanted


class Papers(Case):
    def test_examples(self):
        self.assert_same(paper(A, 7), ("yes", (1, 1)))
        self.check_holds(paper_holds, True, A, 3, ("no", COVER))
        self.assert_same(paper(B, 7), ("no", None))
        self.check_holds(paper_holds, False, A, 4, ("no", COVER))

    def test_papers_hold(self):
        for maker in ALL_MAKERS:
            for number in NUMBERS:
                found = self.quick(paper, maker, number)
                self.assertEqual(found[0], "yes" if is_told(maker, number) else "no")
                self.assertTrue(plain_holds(maker, number, found))
                self.check_holds(paper_holds, True, maker, number, found)

    def test_of_the_other_word(self):
        for maker in ALL_MAKERS:
            for number in NUMBERS:
                word, thing = paper(maker, number)
                other = ("no" if word == "yes" else "yes", thing)
                self.check_holds(paper_holds, False, maker, number, other)

    def test_for_other_numbers(self):
        for maker in ALL_MAKERS:
            found = [paper(maker, number) for number in range(13)]
            for number, value in itertools.product(range(13), found):
                self.assert_same(paper_holds(maker, number, value), plain_holds(maker, number, value))

    def test_of_other_makers(self):
        found = [paper(maker, number) for maker in ALL_MAKERS for number in (0, 1, 4)]
        for maker in ALL_MAKERS:
            for value in found:
                for number in (0, 1, 5):
                    self.assert_same(paper_holds(maker, number, value), plain_holds(maker, number, value))

    def test_values_of_all_kinds(self):
        for maker in ALL_MAKERS:
            for number in (0, 1, 2, 1000):
                for value in NO_THINGS:
                    self.check_holds(paper_holds, False, maker, number, value)
                    for word in ("yes", "no"):
                        whole = (word, value)
                        self.check_holds(paper_holds, plain_holds(maker, number, whole), maker, number, whole)

    def test_wrong_in_one_thing(self):
        for maker in ALL_MAKERS:
            for number in (0, 1, 2, 3, 7, 40):
                word, thing = paper(maker, number)
                for value in ((word, thing, thing), (word,), [word, thing], (thing, word), (word + " ", thing),
                              (word.upper(), thing), (None, thing), (word, (thing,)), (word, [thing])):
                    self.check_holds(paper_holds, False, maker, number, value)
                for other in variants(thing):
                    self.check_holds(paper_holds, plain_holds(maker, number, (word, other)), maker, number,
                                     (word, other))

    def test_it_tells_of_each_maker(self):
        for maker in ALL_MAKERS:
            for number in range(60):
                self.assertEqual(paper(maker, number)[0], "yes" if is_told(maker, number) else "no")

    def test_errors(self):
        for number in (0, 1000):
            for bad in BAD + NO_KIND[:5]:
                for call in (lambda: paper(bad, number), lambda: paper_holds(bad, number, None)):
                    with self.assertRaises(BadMaker) as caught:
                        call()
                    self.assert_same((caught.exception.path, caught.exception.word), maker_error(bad))
            for great in GREAT:
                self.assertRaises(TooGreat, paper, great, number)
                for value in (None, ("yes", None), ("no", ())):
                    self.assertRaises(TooGreat, paper_holds, great, number, value)
                self.assertRaises(BadMaker, paper, ("saying", S, (great, ("row", 5))), number)
            for kind in KINDS:
                self.assertRaises(RoundError, paper, WRONG[kind][-1], number)

    def test_by_name(self):
        self.by_name(paper, ("yes", (1, 1)), maker=A, number=7)
        self.by_name(paper_holds, True, maker=A, number=3, value=("no", COVER))


def variants(thing):
    """Things that are as this one but for one item, somewhere in it."""
    if thing is None:
        return [0, False, (), "", (None,), {}]
    if type(thing) is int:
        return [thing + 1, thing - 1, -thing - 1, None, str(thing), (thing,), bool(thing)]
    if type(thing) is str:
        turned = [thing[:k] + ("0" if thing[k] == "1" else "1") + thing[k + 1:] for k in range(min(3, len(thing)))]
        return turned + [thing + "0", thing + "1", thing[1:], thing[:-1], list(thing), thing + "2", None]
    found = [thing + (0,), thing[:-1], thing[1:], thing[::-1], list(thing), thing + thing[:1], ()]
    for place in list(range(min(4, len(thing)))) + [len(thing) - 1] * (len(thing) > 4):
        found += [thing[:place] + (item,) + thing[place + 1:] for item in variants(thing[place])]
    return found


class Tables(Case):
    def test_places(self):
        maker = ("table", ("0110", "001"))
        for number, place in ((0, 0), (1, 1), (3, 3), (4, 4), (6, 6), (7, 4), (9, 6), (1000, 4)):
            word = "yes" if sign(maker[1], number) == "1" else "no"
            self.assert_same(paper(maker, number), (word, place))
            for other in range(-2, 9):
                self.check_holds(paper_holds, other == place, maker, number, (word, other))
            self.check_holds(paper_holds, False, maker, number, (word, number + 10 ** 30))

    def test_truths_are_no_places(self):
        for number in (0, 1):
            for table in (("01", "0"), ("", "01"), ALL, EMPTY, ("", "10")):
                for place in (True, False):
                    for word in ("yes", "no"):
                        self.check_holds(paper_holds, False, ("table", table), number, (word, place))
                        self.check_holds(paper_holds, False, ("watches", ((0, 1), (0, 1))), number, (word, place))


class Watches(Case):
    def test_any_watch_that_goes(self):
        maker = ("watches", ((0, 2), (0, 3), (5, 1), (200, 60)))
        for number in (0, 1, 2, 3, 4, 6, 7, 200, 260, 1000):
            for place in range(-1, 5):
                for word in ("yes", "no"):
                    self.check_holds(paper_holds, plain_holds(maker, number, (word, place)), maker, number,
                                     (word, place))
        self.check_holds(paper_holds, True, maker, 6, ("yes", 0))
        self.check_holds(paper_holds, True, maker, 6, ("yes", 1))
        self.check_holds(paper_holds, True, maker, 6, ("yes", 2))
        self.check_holds(paper_holds, False, maker, 6, ("yes", 3))
        # Ahead of its first number a watch does not go.
        self.check_holds(paper_holds, False, maker, 140, ("yes", 3))
        self.check_holds(paper_holds, False, maker, 2, ("no", None))
        self.check_holds(paper_holds, True, maker, 1, ("no", None))


class Covers(Case):
    PURSES = [((2, 5), ()), ((3, 5), ()), ((6,), ((4, 1),)), ((), ((2, 2),)), ((), ((1, 20), (30, 3))),
              ((3,), ((4, 2),)),
              ((2,), ((3, 1), (5, 2))), ((4, 6), ((1, 1), (9, 3)))]

    def check(self, purse, value, far=400):
        """The value holds for just the numbers that its last table does not tell, if it is a cover."""
        wanted = plain_is_cover(purse, value, far)
        for number in (0, 1, 3, 7, 20, 1000):
            holds = wanted and sign(value[-1], number) == "0"
            self.check_holds(paper_holds, holds, ("coins", purse), number, ("no", value))
        return wanted

    def first_covers(self, purse):
        free, bounded = purse
        return (("1", "0"),) + tuple(paid((free[:k], ())) for k in range(1, len(free) + 1)) + tuple(
            paid((free, bounded[:k])) for k in range(1, len(bounded) + 1))

    def test_tables_of_what_the_first_coins_pay(self):
        for purse in self.PURSES:
            self.assertTrue(self.check(purse, self.first_covers(purse)))

    def test_with_more_told(self):
        picker = random.Random(341)
        for purse in self.PURSES:
            many = len(purse[0]) + len(purse[1])
            found = self.first_covers(purse)
            for start in range(many + 1):
                self.assertTrue(self.check(purse, found[:start] + (ALL,) * (many + 1 - start)))
            held = 0
            for _ in range(60):
                value = tuple(either_of(table, random_row(picker)) for table in found)
                held += self.check(purse, value, 200)
            self.assertLess(held, 60)

    def test_without_one_number(self):
        for purse in self.PURSES:
            found = self.first_covers(purse)
            for place, table in enumerate(found):
                for number in range(8):
                    less = without_number(table, number)
                    self.check(purse, found[:place] + (less,) + found[place + 1:])

    def test_forms_that_are_not_least(self):
        for purse in self.PURSES:
            found = self.first_covers(purse)
            for more, times in ((1, 1), (7, 3), (0, 5)):
                self.assertTrue(self.check(purse, tuple(longer(table, more, times) for table in found)))

    def test_the_first_tells_0(self):
        for first, holds in ((("1", "0"), True), (("0", "0"), False), (EMPTY, False), (("", "10"), True),
                             (("01", "0"), False), (("00", "1"), False)):
            self.assert_same(self.check(((2,), ()), (first, ("", "10"))), holds)

    def test_free_coins(self):
        for own, holds in ((("", "10"), True), (("", "1"), True), (("10", "1"), True), (("1010", "0"), False),
                           (("", "1000"), False), (("1", "10"), False), (("1010", "1"), True), (("101", "1"), True),
                           (("1001", "1"), False)):
            self.assert_same(self.check(((2,), ()), (("1", "0"), own)), holds)

    def test_bounded_coins(self):
        for own, holds in ((("1001001", "0"), True), (("1001", "0"), False), (("1001000", "0"), False),
                           (("1001001", "1"), True), (("", "100"), True), (("1000001", "0"), False), (ALL, True)):
            self.assert_same(self.check(((), ((3, 2),)), (("1", "0"), own)), holds)

    def test_bounded_of_endless_ones(self):
        # Each even number, and this more by 3.
        for own, holds in ((("10", "1"), True), (("101", "1"), True), (("1010", "10"), False), (("10", "101"), False),
                           (ALL, True), (("1011111", "1"), True), (("1011111", "10"), False)):
            self.assert_same(self.check(((2,), ((3, 1),)), (("1", "0"), ("", "10"), own)), holds)

    def test_turns_with_a_great_common_multiple(self):
        one, other = "1" * 4999, "1" * 5000
        purse = ((2, 3), ((7, 20), (30, 20)))
        full = [("", one), ("1" * 5000, other), (other, one), ("", "1" * 4997), ("", "1" * 4993)]
        value = tuple(full)
        self.assertFalse(self.quick(paper_holds, ("coins", purse), 1000, ("no", value)))
        # The first one tells all even numbers; the second one, by its long turn, all but one far out.
        purse = ((2,), ())
        evens = ("", "10" * 2499)
        self.assertTrue(self.quick(paper_holds, ("coins", purse), 999, ("no", (("1", "0"), evens))))
        self.assertFalse(self.quick(paper_holds, ("coins", purse), 999, ("no", (("", "1" + "0" * 4998), evens))))
        self.assertTrue(self.quick(paper_holds, ("coins", purse), 999, ("no", (("", "1" + "0" * 4997), evens))))
        self.assertFalse(self.quick(paper_holds, ("coins", purse), 999, ("no", (("1", "0"), ("", "10" * 2498 + "0")))))

    def test_far_numbers_meet_by_common_divisors(self):
        # Full heads, so that only what the turns tell can be wrong.
        purse, held = ((), ((3, 1),)), 0
        for ahead_turn in ("010001", "000100", "100000", "000000", "101010"):
            for own_turn in ("0111", "0101", "1111", "1101", "0100", "1010"):
                for head in (0, 1, 500):
                    value = (("1" + "0" * head, ahead_turn), ("1" * (head + 4), own_turn))
                    held += self.check(purse, value, 600)
        self.assertGreater(held, 20)

    def test_random_tables(self):
        picker = random.Random(342)
        held = 0
        for _ in range(3000):
            purse = picker.choice((((1,), ()), ((2,), ()), ((), ((1, 1),)), ((), ((2, 2),)), ((2,), ((1, 1),)),
                                   ((3,), ())))
            many = len(purse[0]) + len(purse[1])
            value = tuple(random_row(picker) for _ in range(many + 1))
            wanted = plain_is_cover(purse, value, 60)
            held += wanted
            number = picker.randrange(30)
            self.assert_same(paper_holds(("coins", purse), number, ("no", value)),
                             wanted and sign(value[-1], number) == "0")
        self.assertGreater(held, 60)

    def test_how_many_tables(self):
        for purse in self.PURSES:
            found = self.first_covers(purse)
            for value in (found[1:], found[:-1], found + (ALL,), (ALL,) + found, (), list(found), found[0]):
                self.check(purse, value)

    def test_no_tables(self):
        found = (("1", "0"), ("", "10"), ("1010", "1"))
        for place in range(3):
            for wrong in VALUES + (("", ""), ("", "2"), ("0" * 5001, "1"), ("", "1" * 5001), ["", "1"], ("", "1", ""),
                                   "1"):
                value = found[:place] + (wrong,) + found[place + 1:]
                self.check(((2, 5), ()), value)

    def test_long_tables_and_many_coins(self):
        purse = ((25,), ((26, 20), (27, 20), (28, 20), (29, 20), (30, 20)))
        value = (("1" * 5000, "1" * 4999), ("1" * 5000, "1" * 4998)) + tuple(("1" * 4999, "1" * (4990 - k))
                                                                          for k in range(5))
        self.assertFalse(self.quick(paper_holds, ("coins", purse), 3, ("no", value)))
        self.assertTrue(self.quick(paper_holds, ("coins", purse), 3, ("no", self.first_covers(purse))))


def random_row(picker):
    """A small table, told thickly or thinly."""
    thick = picker.choice((0.2, 0.5, 0.8, 0.95))
    signs = ["1" if picker.random() < thick else "0" for _ in range(11)]
    head = picker.randrange(5)
    return "".join(signs[:head]), "".join(signs[head:head + picker.randint(1, 6)])


def either_of(one, other):
    """A table, not least, of all numbers that one of two small tables tells."""
    head, turn = max(len(one[0]), len(other[0])), len(one[1]) * len(other[1])
    text = "".join(max(pair) for pair in zip(row(one, head + turn), row(other, head + turn)))
    return text[:head], text[head:]


def without_number(table, number):
    """A table, not least, of all that the table tells but for this number."""
    text = row(table, number + len(table[0]) + len(table[1]) + 1)
    head = max(len(table[0]), number + 1)
    turn = row(table, head + len(table[1]))[head:]
    return text[:number] + "0" + row(table, head)[number + 1:], turn


class Traces(Case):
    MAKER = ("web", WEB)

    def check(self, web, value, numbers=(0, 1, 2, 3, 7, 500)):
        wanted = plain_is_trace(web, value)
        for number in numbers:
            holds = wanted and not set(plain_set_at(value, number)) & set(web[2])
            self.check_holds(paper_holds, holds, ("web", web), number, ("no", value))
        return wanted

    def test_reached(self):
        for maker in ALL_MAKERS:
            if maker[0] == "web":
                self.assertTrue(self.check(maker[1], reached(maker[1])))

    def test_sets_with_more_in_them(self):
        web = (4, ((0, 1), (1, 2), (2, 1), (3, 3)), (3,))
        self.assertTrue(self.check(web, (((0,), (1,), (2,)), 1)))
        self.assertTrue(self.check(web, (((0, 1, 2),), 0)))
        self.assertTrue(self.check(web, (((0, 1, 2, 3),), 0)))
        self.assertTrue(self.check(web, (((0, 3), (1, 3), (2, 3)), 1)))
        self.assertFalse(self.check(web, (((0, 3), (1, 3), (2,)), 1)))
        self.assertFalse(self.check(web, (((0, 3), (1,), (2,)), 1)))
        self.assertTrue(self.check(web, (((0,), (1, 3), (2, 3)), 1)))

    def test_empty_sets(self):
        for web in ((1, (), ()), (2, ((0, 1),), ()), (3, ((1, 2),), (2,))):
            self.check(web, (((0,), ()), 1))
            self.check(web, (((0,), (), ()), 1))
            self.check(web, (((0,), (1,), ()), 2))
            self.check(web, ((), 0))
            self.check(web, (((),), 0))
            self.check(web, (((0,),), 0))

    def test_again_at_its_bounds(self):
        web = (3, ((0, 1), (1, 2), (2, 0)), (2,))
        rows = ((0,), (1,), (2,))
        for again in (-1, 0, 1, 2, 3, 4, None, True, False, "0", (0,), 10 ** 39):
            self.check(web, (rows, again))
        ring = rows * 3
        for again in range(-1, 11):
            self.check(web, (ring, again))
        # The last set goes on as the set at again.
        self.assertTrue(self.check(web, (((0,), (1, 2), (0, 2), (0, 1), (1, 2)), 2)))

    def test_400_and_401_sets(self):
        web = (2, ((0, 0),), (1,))
        for many, fits in ((1, True), (399, True), (400, True), (401, False), (402, False)):
            for again in (0, many // 2, many - 1):
                self.assert_same(self.check(web, (((0,),) * many, again)), fits)

    def test_wrong_sets(self):
        web = WEB
        rows, again = reached(web)
        for place in range(len(rows)):
            for wrong in VALUES + ((3,), (-1,), (0, 0), (1, 0), (2, 1), [0], (True,), (False,), (0, True), "0", {0: 0},
                                   (0, 1, 2, 3)):
                self.check(web, (rows[:place] + (wrong,) + rows[place + 1:], again))
        for wrong in VALUES:
            self.check(web, (wrong, again))
            self.check(web, (rows, wrong))
        for value in ((rows,), (rows, again, again), [rows, again], (list(rows), again), rows):
            self.check(web, value)

    def test_each_set_less_by_one_spot(self):
        for maker in ALL_MAKERS:
            if maker[0] == "web":
                rows, again = reached(maker[1])
                for place, spots in enumerate(rows):
                    for spot in range(maker[1][0]):
                        turned = tuple(sorted(set(spots) ^ {spot}))
                        self.check(maker[1], (rows[:place] + (turned,) + rows[place + 1:], again), range(9))

    def test_random_traces(self):
        picker = random.Random(343)
        held = 0
        for _ in range(2000):
            many = picker.randint(1, 3)
            pairs = sorted({(picker.randrange(many), picker.randrange(many)) for _ in range(picker.randint(0, 4))})
            web = (many, tuple(pairs), tuple(sorted({picker.randrange(many) for _ in range(2)})))
            sets = tuple(tuple(sorted({picker.randrange(many) for _ in range(picker.randint(0, 4))}))
                         for _ in range(picker.randint(1, 4)))
            held += self.check(web, (sets, picker.randrange(len(sets))), (0, 1, 2, 5))
        self.assertGreater(held, 100)


class OtherKinds(Case):
    def test_books(self):
        maker = ("book", BOOK_OF_TWO, 0)
        closed = derived(BOOK_OF_TWO)
        self.check_holds(paper_holds, True, maker, 6, ("no", closed))
        self.check_holds(paper_holds, False, maker, 7, ("no", closed))
        self.check_holds(paper_holds, True, maker, 6, ("no", (("", "010"), ("", "001"))))
        self.check_holds(paper_holds, False, maker, 1, ("no", (("", "010"), ("", "001"))))
        self.check_holds(paper_holds, True, ("book", BOOK, 0), 9, ("yes", (3, 2)))
        self.check_holds(paper_holds, False, ("book", BOOK, 0), 3, ("yes", (0, 1)))
        self.check_holds(paper_holds, True, ("book", BOOK, 0), 10, ("no", bar(BOOK, 0, 10)))
        # Closed rows whose turns have a great common multiple are none.
        self.check_holds(paper_holds, False, ("book", (2, ()), 0), 1, ("no", (("", "0" * 71), ("", "0" * 72))))
        self.check_holds(paper_holds, True, ("book", (2, ()), 0), 1, ("no", (("", "0" * 70), ("", "0" * 71))))

    def test_programs(self):
        never = ("program", ADDING, "never")
        self.check_holds(paper_holds, True, never, 5, ("yes", (0, 1)))
        self.check_holds(paper_holds, False, never, 5, ("yes", None))
        self.check_holds(paper_holds, False, never, 5, ("no", (0, 1)))
        self.check_holds(paper_holds, False, never, 5, ("no", None))
        for word in ("yes", "no"):
            maker = ("program", ADDING, word)
            self.check_holds(paper_holds, True, maker, 5, ("no", (0, 1)))
            self.check_holds(paper_holds, True, maker, 5, ("no", (3, 10 ** 5)))
            self.check_holds(paper_holds, False, maker, 5, ("no", (3, 10 ** 5 + 1)))
            self.check_holds(paper_holds, False, maker, 5, ("no", None))
            self.check_holds(paper_holds, False, maker, 5, ("yes", None))
            self.check_holds(paper_holds, False, maker, 5, ("yes", (0, 1)))
        for number, word in ((6, "yes"), (7, "no")):
            other = "no" if word == "yes" else "yes"
            self.check_holds(paper_holds, True, ("program", P, word), number, ("yes", None))
            self.check_holds(paper_holds, True, ("program", P, other), number, ("no", None))
            self.check_holds(paper_holds, True, ("program", P, "never"), number, ("no", None))
            self.check_holds(paper_holds, False, ("program", P, word), number, ("no", None))
            self.check_holds(paper_holds, False, ("program", P, other), number, ("yes", None))
            self.check_holds(paper_holds, False, ("program", P, "never"), number, ("yes", None))
        self.check_holds(paper_holds, True, ("program", Q, "yes"), 2, ("no", way_round(Q, 2)))
        self.check_holds(paper_holds, False, ("program", Q, "yes"), 3, ("no", way_round(Q, 2)))

    def test_games(self):
        maker = ("game", (2, 3))
        for form in (lost((2, 3)), longer(lost((2, 3)), 4, 3), ("", "11000" * 1000)):
            for number in (0, 1, 2, 5, 999, 1000):
                told = number % 5 < 2
                self.check_holds(paper_holds, told, maker, number, ("yes", form))
                self.check_holds(paper_holds, not told, maker, number, ("no", form))
        for wrong in (("", "11001"), ("1", "11000"), ("", "00110"), ALL, EMPTY, ["", "11000"], None, 0):
            for word in ("yes", "no"):
                for number in (0, 2):
                    self.check_holds(paper_holds, False, maker, number, (word, wrong))

    def test_rows(self):
        for value in (0, 1):
            maker = ("row", FIB, value)
            for number in (0, 1, 2, 3, 999, 1000):
                told = (0 if number % 3 == 0 else 1) == value
                self.check_holds(paper_holds, told, maker, number, ("yes", None))
                self.check_holds(paper_holds, not told, maker, number, ("no", None))
                for wrong in (0, 1, False, True, (), "", number, value):
                    self.check_holds(paper_holds, False, maker, number, ("yes", wrong))
                    self.check_holds(paper_holds, False, maker, number, ("no", wrong))

    def test_notes_with_one_sign_otherwise(self):
        for maker in SAYINGS:
            right = notes(maker[1], tuple(plain_made(part) for part in maker[2]))
            for number in (0, 1, 6):
                word = "yes" if sign(right[-1], number) == "1" else "no"
                self.check_holds(paper_holds, True, maker, number, (word, right))
                for place, (head, turn) in enumerate(right):
                    flipped = [(head[:k] + ("0" if head[k] == "1" else "1") + head[k + 1:], turn)
                               for k in range(len(head))]
                    flipped += [(head, turn[:k] + ("0" if turn[k] == "1" else "1") + turn[k + 1:])
                                for k in range(len(turn))]
                    flipped += [longer((head, turn), 1, 1), longer((head, turn), 0, 2), [head, turn]]
                    for other in flipped[:40]:
                        value = (word, right[:place] + (other,) + right[place + 1:])
                        self.check_holds(paper_holds, False, maker, number, value)
                for value in (right[:-1], right + right[-1:], right[1:], right[::-1], list(right), right[-1]):
                    self.check_holds(paper_holds, value == right, maker, number, (word, value))

    def test_at_the_bounds(self):
        for maker in (("table", ("1" * 4999 + "0", "0" * 4999 + "1")), ("game", (1, 2, 3, 4, 5, 6, 7, 8)),
                      ("row", (7, (0, 1, 1, 4), (0, 0, 0, 1)), 3), ("coins",
                                                                    ((29, 30), ((25, 20), (26, 20), (28, 20)))),
                      ("watches", ((200, 60), (199, 59))), ("web", (12, tuple((k, (k + 1) % 12) for k in range(11)) +
                                                                    ((11, 0), (11, 1)), (0,))),
                      ("saying", ("since", ("till", S, S), ("ahead", S)),
                       (("table", ("1" * 1000 + "0", "0" * 1332 + "1")),))):
            for number in (0, 17, 999, 1000):
                found = self.quick(paper, maker, number)
                self.assertTrue(self.quick(paper_holds, maker, number, found))


class Findings(Case):
    PAIRS = [(A, B), (B, A), (COINS, WATCHES), (NOT_EVEN, TABLE), (TABLE, NOT_EVEN), (("row", FIB, 0), ("row", FIB, 1)),
             (("program", P, "yes"), ("game", (1,))), (BOTH, COINS), (("book", BOOK, 0), ("web", WEB))]

    def check(self, one, other):
        found = self.quick(finding, one, other)
        left, right = plain_made(one), plain_made(other)
        far = max(len(left[0]), len(right[0])) + len(left[1]) + len(right[1])
        number = next((n for n in range(far) if sign(left, n) != sign(right, n)), None)
        if number is None:
            self.assert_same(found, ("alike", left))
        else:
            self.assert_same(found[:2], ("parted", number))
            self.assertEqual(len(found), 4)
            self.assertEqual({found[2][0], found[3][0]}, {"yes", "no"})
            self.assertTrue(plain_holds(one, number, found[2]))
            self.assertTrue(plain_holds(other, number, found[3]))
        self.check_holds(finding_holds, True, one, other, found)
        return found

    def test_all_pairs(self):
        for one, other in itertools.product(ALL_MAKERS[::2], ALL_MAKERS[::3]):
            self.check(one, other)
        for one, other in self.PAIRS:
            self.check(one, other)

    def test_known(self):
        self.assert_same(finding(A, B), ("parted", 5, ("yes", (0, 1)), ("no", None)))
        self.assert_same(finding(B, A), ("parted", 5, ("no", None), ("yes", (0, 1))))
        self.assert_same(finding(NOT_EVEN, TABLE), ("alike", ("", "01")))

    def test_unlike_kinds_that_make_the_same(self):
        even = [("table", ("", "10")), B, ("coins", ((2,), ())), ("game", (1,)), ("web", (2, ((0, 1), (1, 0)), (0,))),
                ("program", P, "yes"), ("row", (2, (0, 1), (0, 1)), 0), ("book", (1, ((0, 0, ()), (0, 2, (0,)))), 0),
                ("saying", ("not", S), (TABLE,))]
        for one, other in itertools.product(even, repeat=2):
            self.assert_same(self.check(one, other), ("alike", ("", "10")))

    def test_any_number_that_parts_them(self):
        for one, other in self.PAIRS:
            left, right = plain_made(one), plain_made(other)
            for number in list(range(40)) + [999, 1000]:
                value = ("parted", number, paper(one, number), paper(other, number))
                self.check_holds(finding_holds, sign(left, number) != sign(right, number), one, other, value)

    def test_turned_about(self):
        for one, other in self.PAIRS:
            found = finding(one, other)
            if found[0] == "parted":
                self.check_holds(finding_holds, False, one, other, found[:2] + found[:1:-1])
                self.check_holds(finding_holds, True, other, one, found[:2] + found[:1:-1])
            else:
                self.check_holds(finding_holds, True, other, one, found)

    def test_wrong_in_one_thing(self):
        found = finding(A, B)
        for value in (found[:3], found + (None,), list(found), ("alike",) + found[1:], ("Parted",) + found[1:],
                      ("parted",), ("parted", 5), ("parted", 5, found[2]), (found,), ()):
            self.check_holds(finding_holds, False, A, B, value)
        for number in (0, 4, 6, -1, None, True, "5", 1001, 10 ** 39, (5,)):
            self.check_holds(finding_holds, False, A, B, ("parted", number) + found[2:])
        for place in (2, 3):
            for other in variants(found[place]) + [("yes", None), ("no", COVER), None, ("no", ()), ("yes", (5, 0))]:
                value = found[:place] + (other,) + found[place + 1:]
                right = place == 2 and plain_holds(A, 5, other) and other[0] == "yes"
                right = right or (place == 3 and plain_holds(B, 5, other))
                self.check_holds(finding_holds, right, A, B, value)

    def test_both_of_one_word(self):
        for number in (0, 2, 3, 4, 6):
            value = ("parted", number, paper(A, number), paper(B, number))
            self.assertEqual(value[2][0], value[3][0])
            self.check_holds(finding_holds, False, A, B, value)

    def test_alike(self):
        for table, holds in ((("", "01"), True), (("", "0101"), False), (("0", "10"), False), (("", "10"), False),
                             (["", "01"], False), (None, False), (True, False), ((), False)):
            self.check_holds(finding_holds, holds, NOT_EVEN, TABLE, ("alike", table))
            self.check_holds(finding_holds, False, A, B, ("alike", table))
        for table in (made(A), made(B)):
            self.check_holds(finding_holds, False, A, B, ("alike", table))
        right = ("alike", ("", "01"))
        for value in (right + right[1:], right[:1], list(right), ("Alike", ("", "01")), ("parted", ("", "01")),
                      (True, ("", "01")), (("", "01"), "alike")):
            self.check_holds(finding_holds, False, NOT_EVEN, TABLE, value)

    def test_values_of_all_kinds(self):
        for one, other in ((A, B), (NOT_EVEN, TABLE)):
            for value in NO_THINGS:
                self.check_holds(finding_holds, False, one, other, value)
                self.check_holds(finding_holds, False, one, other, ("alike", value))
                self.check_holds(finding_holds, False, one, other, ("parted", value, ("yes", None), ("no", None)))
                self.check_holds(finding_holds, False, one, other, ("parted", 5, value, ("no", None)))
                self.check_holds(finding_holds, False, one, other, ("parted", 5, ("yes", (0, 1)), value))

    def test_at_1000_and_behind(self):
        empty = ("table", EMPTY)
        for number, fits in ((999, True), (1000, True), (1001, False), (1002, False), (4999, False)):
            maker = ("table", just((number,)))
            for one, other in ((maker, empty), (empty, maker)):
                if fits:
                    self.assert_same(self.check(one, other)[1], number)
                else:
                    self.assertRaises(TooGreat, finding, one, other)
                    self.check_holds(finding_holds, False, one, other, None)
                    papers = (("yes", number), ("no", 0)) if one == maker else (("no", 0), ("yes", number))
                    self.check_holds(finding_holds, False, one, other, ("parted", number) + papers)
            self.assert_same(self.check(maker, maker), ("alike", just((number,))))

    def test_errors_in_order(self):
        for call in (finding, lambda one, other: finding_holds(one, other, None)):
            for great in GREAT:
                self.assertRaises(TooGreat, call, great, TABLE)
                self.assertRaises(TooGreat, call, TABLE, great)
                for bad in BAD:
                    self.assertRaises(TooGreat, call, great, bad)
                    self.assertRaises(BadMaker, call, bad, great)
            with self.assertRaises(BadMaker) as caught:
                call(("game", (9,)), ("row", 5))
            self.assert_same((caught.exception.path, caught.exception.word), ((), "game"))
            with self.assertRaises(BadMaker) as caught:
                call(TABLE, ("row", 5))
            self.assert_same((caught.exception.path, caught.exception.word), ((), "kind"))
        # BadMaker of other comes ahead of the number above 1000.
        self.assertRaises(BadMaker, finding, ("table", just((1001,))), ("row", 5))

    def test_far_turns(self):
        one, other = ("table", ("", prime_turn(5000))), ("table", ("", prime_turn(4999)))
        self.assertRaises(TooGreat, finding, one, other)
        self.check_holds(finding_holds, False, one, other, ("alike", one[1]))
        self.check_holds(finding_holds, False, one, other, ("alike", other[1]))

    def test_by_name(self):
        self.by_name(finding, finding(A, B), one=A, other=B)
        self.by_name(finding_holds, True, one=A, other=B, value=finding(A, B))


if __name__ == "__main__":
    unittest.main()
