import itertools
import random
import unittest

from leastmakers.errors import (
    BadDeeds, BadLine, BadName, BadSeen, Differs, Full, Hangs, NoName, NothingToRedo, NothingToUndo, Rejected, Ring,
    RoundError, Taken, TooDeep, TooGreat, TooMany)
from leastmakers.house import House
from leastmakers.makers import made, maker_error
from leastmakers.sayings import truth
from leastmakers.tables import ALL, EMPTY, has, just, parting
from makerforms import ALL_MAKERS, COINS, GREAT_BOOK, KINDS, NO_KIND, NOT_EVEN, SAYINGS, S, TABLE, WATCHES, WRONG
from reckoning import VALUES, Case, prime_turn

U = ("told", 1, 0)
EVEN = ("watches", ((0, 2),))
EVENS = [EVEN, ("coins", ((2,), ())), ("game", (1,)), ("table", ("", "10")), ("saying", ("not", S), (TABLE,))]
GREAT = ("book", GREAT_BOOK, 0)
FULL_HEAD = ("table", ("1" * 4999 + "0", "1"))
# What is no name, whatever names there are.
NO_NAMES = tuple(value for value in VALUES) + ("", "X", "aX", "a1", "a b", "abcdefghi", "a_", " a", "a ", "a\n", b"a",
                                               ("a",),
                                              ["a"], {"a": 1})


def of(names, saying=None):
    """A line over the names, a single one turned over if no saying is told."""
    return ("of", saying or (("not", S) if len(names) == 1 else ("and", S, U)), tuple(names))


def house_of(**lines):
    """A house with these lines, put in this order."""
    house = House()
    for name, line in lines.items():
        house.put(name, line)
    return house


def state(house):
    """All that can be seen of the house."""
    lines = tuple((name, house[name], house.table(name), house.hangs(name)) for name in house.names)
    return lines, house.deeds, house.undone, len(house), str(house), house.alike()


def history(house):
    """All states that undo and redo come to, from the first one on."""
    other = house.copy()
    while other.deeds:
        other.undo()
    found = [state(other)[0]]
    while other.undone:
        other.redo()
        found.append(state(other)[0])
    return found


class HouseCase(Case):
    def refused(self, house, error, call, *values, **wanted):
        """The call raises the error, with these attributes, twice, and does nothing."""
        before = state(house), history(house)
        for _ in range(2):
            with self.assertRaises(RoundError) as caught:
                call(*values)
            self.assertIs(type(caught.exception), error)
            for key, value in wanted.items():
                self.assert_same(getattr(caught.exception, key), value)
        self.assertEqual((state(house), history(house)), before)

    def done(self, house, wanted, call, *values):
        """The call returns wanted and stands as one deed; undo and redo go back and forth."""
        before, deeds = state(house)[0], house.deeds
        self.assert_same(call(*values), wanted)
        self.assertEqual((house.deeds, house.undone), (deeds + 1, 0))
        behind = state(house)
        self.assertEqual(house.undo(), deeds)
        self.assertEqual(state(house)[0], before)
        self.assertEqual(house.undone, 1)
        self.assertEqual(house.redo(), deeds + 1)
        self.assertEqual(state(house), behind)


class Looks(HouseCase):
    def test_new_house(self):
        house = House()
        self.assert_same((house.names, house.deeds, house.undone, len(house), str(house)),
                         ((), 0, 0, 0, "0 lines, 0 deeds"))
        self.assert_same(house.alike(), ())
        self.assertEqual(house, House())

    def test_properties_can_only_be_read(self):
        house = house_of(x=EVEN)
        for name in ("names", "deeds", "undone"):
            with self.assertRaises(AttributeError):
                setattr(house, name, 0)
            self.assertIsInstance(getattr(House, name), property)
        self.assert_same((house.names, house.deeds, house.undone), (("x",), 1, 0))

    def test_methods_stand_in_the_class(self):
        for name in ("put drop rename change swap batch undo redo table tells hangs plain alike copy tried kept "
                     "__getitem__ __len__ __contains__ __eq__ __str__ __iter__").split():
            self.assertIn(name, vars(House))

    def test_lines_and_tables(self):
        for maker in ALL_MAKERS:
            house = house_of(x=maker)
            self.assert_same(house["x"], maker)
            self.assert_same(house.table("x"), made(maker))
            self.assert_same(house.plain("x"), maker)
            for number in (0, 1, 5, 1000, 10 ** 18):
                self.assert_same(house.tells("x", number), has(made(maker), number))

    def test_lines_over_names(self):
        house = house_of(x=COINS, y=WATCHES, z=of("xy"), w=of("zx", ("since", S, U)),
                         v=of("xxx", ("or", S, ("told", 2, 3))))
        self.assert_same(house.table("z"), truth(("and", S, U), (made(COINS), made(WATCHES))))
        self.assert_same(house.table("w"), truth(("since", S, U), (house.table("z"), made(COINS))))
        self.assert_same(house.table("v"), truth(("or", S, ("told", 0, 3)), (made(COINS),)))
        self.assert_same(house.names, ("v", "w", "x", "y", "z"))
        self.assert_same(house["w"], ("of", ("since", S, U), ("z", "x")))

    def test_hangs(self):
        house = house_of(a=EVEN, b=of("a"), c=of("b"), d=of("ca"), e=COINS, f=of("ee"))
        for name, wanted in (("a", ("b", "c", "d")), ("b", ("c", "d")), ("c", ("d",)), ("d", ()), ("e", ("f",)),
                             ("f", ())):
            self.assert_same(house.hangs(name), wanted)

    def test_plain(self):
        house = house_of(a=EVEN, b=of("a"), c=of("ba", ("since", S, U)))
        self.assert_same(house.plain("a"), EVEN)
        self.assert_same(house.plain("b"), ("saying", ("not", S), (EVEN,)))
        self.assert_same(house.plain("c"), ("saying", ("since", S, U), (("saying", ("not", S), (EVEN,)), EVEN)))
        for name in house.names:
            self.assert_same(made(house.plain(name)), house.table(name))

    def test_plain_too_deep(self):
        house = house_of(a=EVEN, b=of("a"), c=of("b"), d=of("c"), e=of("d"))
        self.assertIsNone(maker_error(house.plain("c")))
        self.refused(house, TooDeep, house.plain, "d")
        self.refused(house, TooDeep, house.plain, "e")
        # As deep with a saying that has makers of its own.
        house = house_of(a=NOT_EVEN, b=of("a"), c=of("b"))
        self.assert_same(made(house.plain("b")), house.table("b"))
        self.refused(house, TooDeep, house.plain, "c")

    def test_plain_with_too_many(self):
        three = of("aaa", ("or", S, ("told", 2, 0)))
        house = house_of(a=EVEN, b=three, c=of("ba"), d=of("bb"), e=of("baa", ("told", 2, 0)),
                         f=of("bba", ("told", 2, 0)))
        # 1 and 3 and 4 makers in c, 9 in d, 10 in f.
        for name in "abcde":
            self.assert_same(made(house.plain(name)), house.table(name))
        self.refused(house, TooDeep, house.plain, "f")
        self.assertEqual(maker_error(("saying", S, (house.plain("b"), house.plain("b"), EVEN))), ((2,), "many"))

    def test_plain_of_many_ways(self):
        # Each line three times over the one ahead: far more makers than can be gone through one by one.
        house = House()
        house.put("a", EVEN)
        for ahead, name in zip("abcdefg", "bcdefgh"):
            house.put(name, ("of", ("and", S, ("or", U, ("told", 2, 1))), (ahead,) * 3))
        self.refused(house, TooDeep, house.plain, "h")
        self.assertEqual(self.quick(house.hangs, "a"), tuple("bcdefgh"))

    def test_alike(self):
        house = house_of(d=COINS, c=EVENS[0], b=EVENS[1], a=WATCHES, e=("coins", ((3, 5), ((8, 2),))), f=EVENS[2])
        self.assert_same(house.alike(), (("a",), ("b", "c", "f"), ("d", "e")))
        house.put("g", of("c"))
        house.put("h", TABLE)
        self.assert_same(house.alike(), (("a",), ("b", "c", "f"), ("d", "e"), ("g", "h")))

    def test_no_name(self):
        house = house_of(x=EVEN, y=of("x"))
        for value in NO_NAMES + ("z", "xx", "xy"):
            for call in (house.__getitem__, house.table, house.hangs, house.plain, lambda name: house.tells(name, 3)):
                self.refused(house, NoName, call, value, name=value)
            self.assertNotIn(value, house)
            with self.assertRaises(NoName):
                house[value]

    def test_in(self):
        house = house_of(x=EVEN, yy=COINS)
        self.assert_same(["x" in house, "yy" in house, "y" in house, "" in house], [True, True, False, False])
        self.assertNotIn(house, house)
        self.assertNotIn(EVEN, house)
        self.assertIs(house.__contains__("x"), True)
        self.assertIs(house.__contains__(["x"]), False)

    def test_no_iteration(self):
        for house in (House(), house_of(x=EVEN, y=COINS)):
            for call in (iter, list, tuple, sorted, set, enumerate, lambda value: [*value], lambda value: dict(value)):
                self.assertRaises(TypeError, call, house)
            with self.assertRaises(TypeError):
                for _ in house:
                    pass
            with self.assertRaises(TypeError):
                one, other = house

    def test_str_and_len(self):
        house = House()
        for many, name in enumerate("abcdefgh", 1):
            house.put(name, EVEN)
            self.assert_same((len(house), str(house)), (many, f"{many} lines, {many} deeds"))
        house.drop("a")
        self.assert_same((len(house), str(house)), (7, "7 lines, 9 deeds"))
        house.undo()
        self.assert_same((len(house), str(house)), (8, "8 lines, 8 deeds"))

    def test_eq(self):
        house = house_of(x=EVEN, y=COINS)
        self.assertEqual(house, house_of(y=COINS, x=EVEN))
        for other in (House(), house_of(x=EVEN), house_of(x=COINS, y=EVEN), house_of(x=EVEN, z=COINS),
                      house_of(x=EVENS[1], y=COINS), house_of(x=EVEN, y=COINS, z=COINS)):
            self.assertNotEqual(house, other)
            self.assertIs(house == other, False)
            self.assertIs(house != other, True)
        for other in VALUES + (("x", "y"), {"x": EVEN, "y": COINS}, "x", House):
            self.assertIs(house == other, False)
            self.assertIs(other == house, False)
        self.assertIs(house == house_of(x=EVEN, y=COINS), True)

    def test_eq_looks_at_lines_alone(self):
        one, other = house_of(x=EVEN, y=COINS), House()
        other.put("z", COINS)
        other.put("x", EVENS[2])
        other.rename("z", "y")
        other.swap("x", EVEN)
        self.assertEqual(one, other)
        other.undo()
        self.assertNotEqual(one, other)
        other.redo()
        self.assertEqual(one, other)

    def test_by_name(self):
        house = house_of(x=EVEN, y=of("x"))
        self.assert_same(house.table(name="x"), ("", "10"))
        self.assert_same(house.tells(name="x", number=4), True)
        self.assert_same(house.tells(number=5, name="x"), False)
        self.assert_same(house.hangs(name="x"), ("y",))
        self.assert_same(house.plain(name="y"), ("saying", ("not", S), (EVEN,)))


# Lines that are wrong, with the pair of BadLine, in a house with the names x and y.
def wrong_lines():
    found = [(value, maker_error(value)) for kind in KINDS for value in WRONG[kind]]
    found += [(value, ((), "kind")) for value in NO_KIND if not (type(value) is tuple and len(value) == 3 and
                                                                 value[0] == "of")]
    found += [(("saying", S, (TABLE, ("row", 5))), ((1,), "kind"))]
    for names in VALUES + ((), ("x", "y", "x", "y"), ["x"], ("z",), ("x", "z"), ("X",), ("",), (("x",),), (["x"],),
                           ({},),
                           ("x", None), "x", ("x", True)):
        found.append((("of", S, names), ((), "of")))
    for saying in VALUES + (("told", 1, 0), ("told", 2, 0), ("told", 0, 21), ("and", S, U), ["told", 0, 0]):
        found.append((("of", saying, ("x",)), ((), "of")))
    found.append((("of", ("told", 2, 0), ("x", "y")), ((), "of")))
    found += [(value, ((), "kind")) for value in (("of",), ("of", S), ("of", S, ("x",), ()), ["of", S, ("x",)],
                                                  ("Of", S, ("x",)),
                                                  (("of",), S, ("x",)))]
    return found


class Put(HouseCase):
    def test_put(self):
        house = House()
        for many, (name, maker) in enumerate(zip("hgfedcba", ALL_MAKERS[::6])):
            self.done(house, made(maker), house.put, name, maker)
            self.assertEqual(len(house), many + 1)
            self.assert_same((house[name], house.table(name)), (maker, made(maker)))

    def test_over_names(self):
        house = house_of(x=EVEN)
        self.done(house, ("", "01"), house.put, "y", of("x"))
        self.done(house, ALL, house.put, "z", of("xy", ("or", S, U)))
        self.done(house, EMPTY, house.put, "w", of("xyx", ("and", S, U)))

    def test_names(self):
        house = House()
        for name in ("a", "z", "abcdefgh", "zzzzzzzz"):
            self.done(house, ("", "10"), house.put, name, EVEN)
        for value in NO_NAMES:
            self.refused(house, BadName, house.put, value, EVEN, name=value)

    def test_wrong_lines(self):
        house = house_of(x=EVEN, y=COINS)
        for line, (path, word) in wrong_lines():
            self.refused(house, BadLine, house.put, "w", line, path=path, word=word)

    def test_over_itself(self):
        house = house_of(x=EVEN)
        self.refused(house, BadLine, house.put, "y", of("xy"), path=(), word="of")

    def test_eight_lines(self):
        house = house_of(**{name: EVEN for name in "abcdefgh"})
        self.refused(house, TooMany, house.put, "i", EVEN, limit=8)
        house.drop("c")
        self.done(house, ("", "10"), house.put, "i", EVEN)

    def test_too_great(self):
        house = house_of(x=FULL_HEAD)
        self.refused(house, TooGreat, house.put, "y", GREAT)
        self.refused(house, TooGreat, house.put, "y", of("x", ("ahead", S)))
        self.refused(house, TooGreat, house.put, "y", ("saying", S, (EVEN, GREAT)))

    def test_errors_in_order(self):
        full_lines = house_of(**{name: EVEN for name in "abcdefgh"})
        self.refused(full_lines, BadName, full_lines.put, "A", None, name="A")
        self.refused(full_lines, Taken, full_lines.put, "a", None, name="a")
        self.refused(full_lines, TooMany, full_lines.put, "i", None, limit=8)
        self.refused(full_lines, TooMany, full_lines.put, "i", GREAT, limit=8)
        house = house_of(a=EVEN)
        self.refused(house, Taken, house.put, "a", GREAT, name="a")
        self.refused(house, BadLine, house.put, "b", ("saying", S, (GREAT, None)), path=(1,), word="kind")
        for values in (("A", None), ("a", EVEN), ("b", None), ("b", GREAT), ("b", EVEN)):
            for full in (full_of_deeds(), full_of_deeds(8)):
                self.refused(full, Full, full.put, *values)

    def test_by_name(self):
        house = House()
        self.assert_same(house.put(name="x", line=EVEN), ("", "10"))
        self.assert_same(house.put(line=of("x"), name="y"), ("", "01"))


def full_of_deeds(lines=2):
    """A house with 20 deeds and so many lines: a and b are there."""
    house = House()
    for name in "abcdefgh"[:lines]:
        house.put(name, EVEN)
    while house.deeds < 20:
        house.change("a", EVEN)
    return house


class Drop(HouseCase):
    def test_drop(self):
        house = house_of(x=EVEN, y=COINS, z=of("x"))
        self.done(house, None, house.drop, "y")
        self.refused(house, Hangs, house.drop, "x", name="z")
        self.done(house, None, house.drop, "z")
        self.done(house, None, house.drop, "x")
        self.assert_same(house.names, ())

    def test_first_that_hangs(self):
        # c hangs on x by way of d.
        house = house_of(x=EVEN, d=of("x"), c=of("d"), e=of("c"))
        self.refused(house, Hangs, house.drop, "x", name="c")
        self.refused(house, Hangs, house.drop, "d", name="c")
        self.refused(house, Hangs, house.drop, "c", name="e")

    def test_no_name(self):
        house = house_of(x=EVEN)
        for value in NO_NAMES + ("y", "xx"):
            self.refused(house, NoName, house.drop, value, name=value)

    def test_full(self):
        for value in ("a", "z", None):
            house = full_of_deeds()
            self.refused(house, Full, house.drop, value)

    def test_by_name(self):
        house = house_of(x=EVEN)
        self.assert_same(house.drop(name="x"), None)


class Rename(HouseCase):
    def test_rename(self):
        house = house_of(x=EVEN, y=COINS, z=of("xyx", ("or", S, ("told", 2, 1))), w=of("z"))
        tables = {name: house.table(name) for name in house.names}
        self.done(house, None, house.rename, "x", "a")
        self.assert_same(house.names, ("a", "w", "y", "z"))
        self.assert_same(house["z"], ("of", ("or", S, ("told", 2, 1)), ("a", "y", "a")))
        self.assert_same(house["w"], of("z"))
        self.done(house, None, house.rename, "z", "abcdefgh")
        self.assert_same(house["w"], ("of", ("not", S), ("abcdefgh",)))
        self.assert_same(house.table("abcdefgh"), tables["z"])
        self.assert_same(house.table("a"), tables["x"])
        self.assert_same(house.hangs("a"), ("abcdefgh", "w"))

    def test_words_of_sayings_are_no_names(self):
        house = house_of(told=EVEN, of=COINS, x=("of", ("told", 1, 0), ("told", "of")))
        self.done(house, None, house.rename, "told", "y")
        self.assert_same(house["x"], ("of", ("told", 1, 0), ("y", "of")))

    def test_errors(self):
        house = house_of(x=EVEN, y=of("x"))
        for value in NO_NAMES + ("z",):
            for new in ("w", "x", "y", "W", None):
                self.refused(house, NoName, house.rename, value, new, name=value)
        for value in NO_NAMES:
            self.refused(house, BadName, house.rename, "x", value, name=value)
        self.refused(house, Taken, house.rename, "x", "y", name="y")
        self.refused(house, Taken, house.rename, "x", "x", name="x")
        self.refused(house, Taken, house.rename, "y", "x", name="x")
        for values in (("a", "c"), ("z", "c"), ("a", "A"), ("a", "b")):
            full = full_of_deeds()
            self.refused(full, Full, full.rename, *values)

    def test_at_eight_lines(self):
        house = house_of(**{name: EVEN for name in "abcdefgh"})
        self.done(house, None, house.rename, "c", "i")

    def test_by_name(self):
        house = house_of(x=EVEN)
        self.assert_same(house.rename(new="y", old="x"), None)
        self.assert_same(house.names, ("y",))


class Change(HouseCase):
    def test_names_whose_tables_are_others(self):
        house = house_of(x=EVEN, y=of("x"), z=of("y"), w=COINS, v=of("xw", ("or", S, U)))
        self.done(house, (), house.change, "x", EVENS[1])
        self.done(house, ("v", "x", "y", "z"), house.change, "x", ("coins", ((2, 3), ())))
        self.assert_same(house.table("y"), ("01", "0"))
        self.assert_same(house.table("z"), ("10", "1"))
        self.done(house, ("v", "x", "y", "z"), house.change, "x", ("table", EMPTY))
        self.done(house, ("v", "w"), house.change, "w", WATCHES)
        self.done(house, ("z",), house.change, "z", EVEN)
        self.assert_same(house.hangs("x"), ("v", "y"))

    def test_the_same_line(self):
        house = house_of(x=EVEN, y=of("x"))
        self.done(house, (), house.change, "x", EVEN)
        self.done(house, (), house.change, "y", of("x"))
        self.assertEqual(house.deeds, 4)

    def test_what_hangs_on_what_hangs(self):
        # Names stand so that what hangs on others comes ahead of them.
        house = house_of(d=EVEN, c=of("d"), b=of("c"), a=of("bc", ("or", S, U)))
        self.done(house, ("b", "c", "d"), house.change, "d", ("table", ALL))
        self.assert_same([house.table(name) for name in "abcd"], [ALL, ALL, EMPTY, ALL])

    def test_another_line_over_names(self):
        house = house_of(x=EVEN, y=of("x"), z=of("y"))
        self.done(house, ("z",), house.change, "z", of("xy"))
        self.done(house, ("y", "z"), house.change, "y", of("x", ("told", 0, 2)))
        self.assert_same(house.hangs("x"), ("y", "z"))
        self.done(house, ("y", "z"), house.change, "y", COINS)

    def test_other_names_keep_their_tables(self):
        picker = random.Random(351)
        for _ in range(60):
            house = random_house(picker, 6)
            name = picker.choice(house.names)
            before = {other: house.table(other) for other in house.names}
            hanging = house.hangs(name)
            found = house.change(name, picker.choice(ALL_MAKERS))
            for other in house.names:
                self.assertEqual(house.table(other) != before[other], other in found)
                if other != name and other not in hanging:
                    self.assertEqual(house.table(other), before[other])
                self.assert_same(house.table(other), reckoned(house, other))

    def test_ring(self):
        house = house_of(x=EVEN, y=of("x"), z=of("y"), w=COINS)
        for name, line, other in (
                ("x", of("x"), "x"), ("x", of("y"), "y"), ("x", of("z"), "z"), ("x", of("wz"), "z"),
                ("x", of("zy"), "z"),
                ("x", of("yz"), "y"), ("x", of("wxy"), "x"), ("y", of("z"), "z"), ("y", of("xyz"), "y"),
                ("z", of("z"), "z")):
            self.refused(house, Ring, house.change, name, line, name=other)
            self.refused(house, Ring, house.swap, name, line, name=other)
        self.done(house, ("z",), house.change, "z", of("xw"))

    def test_wrong_lines(self):
        house = house_of(x=EVEN, y=COINS)
        for line, (path, word) in wrong_lines():
            self.refused(house, BadLine, house.change, "x", line, path=path, word=word)
            self.refused(house, BadLine, house.swap, "x", line, path=path, word=word)

    def test_too_great(self):
        house = house_of(x=EVEN, y=of("x", ("ahead", S)), z=of("y", ("ahead", S)))
        for call in (house.change, house.swap):
            self.refused(house, TooGreat, call, "x", GREAT)
            # Its own table can be made; those that hang on it can't.
            self.refused(house, TooGreat, call, "x", FULL_HEAD)
            self.refused(house, TooGreat, call, "x", ("table", ("1" * 4999 + "0", "1")))
        self.done(house, ("x", "y", "z"), house.change, "x", ("table", ("0" * 4997 + "1", "0")))
        self.assert_same(house.table("z"), ("0" * 4999, "1"))

    def test_too_great_of_far_hanging_ones(self):
        # The table of y has a head of 4999 signs, so that twice ahead is too much for z alone.
        house = house_of(x=EVEN, y=of("x", ("ahead", S)), z=of("y", ("ahead", ("ahead", S))))
        self.refused(house, TooGreat, house.change, "x", ("table", ("0" * 4998 + "1", "0")))
        house.drop("z")
        self.done(house, ("x", "y"), house.change, "x", ("table", ("0" * 4998 + "1", "0")))

    def test_too_great_together(self):
        house = house_of(x=EVEN, y=("table", ("", prime_turn(71))), z=of("xy"))
        self.refused(house, TooGreat, house.change, "x", ("table", ("", prime_turn(72))))
        self.done(house, ("x", "z"), house.change, "x", ("table", ("", prime_turn(70))))

    def test_no_name(self):
        house = house_of(x=EVEN)
        for value in NO_NAMES + ("y",):
            for line in (EVEN, None, GREAT):
                self.refused(house, NoName, house.change, value, line, name=value)
                self.refused(house, NoName, house.swap, value, line, name=value)

    def test_errors_in_order(self):
        house = house_of(x=EVEN, y=of("x"))
        self.refused(house, BadLine, house.change, "x", ("of", ("told", 2, 0), ("y",)), path=(), word="of")
        self.refused(house, Ring, house.change, "x", of("yx", ("told", 1, 20)), name="y")
        for values in (("a", EVEN), ("z", EVEN), ("a", None), ("a", of("a")), ("a", GREAT)):
            full = full_of_deeds()
            self.refused(full, Full, full.change, *values)
            self.refused(full, Full, full.swap, *values)
            self.refused(full, Full, full.swap, *values, None)

    def test_by_name(self):
        house = house_of(x=EVEN)
        self.assert_same(house.change(line=COINS, name="x"), ("x",))


def reckoned(house, name):
    """The table under the name, by the tables of the names in its line, over and over."""
    line = house[name]
    if line[0] == "of":
        return truth(line[1], tuple(reckoned(house, other) for other in line[2]))
    return made(line)


def random_house(picker, many):
    """A house of so many lines, half of them over names."""
    house = House()
    for name in picker.sample("abcdefgh", many):
        names = house.names
        if names and picker.random() < 0.6:
            chosen = [picker.choice(names) for _ in range(picker.randint(1, 3))]
            saying = picker.choice((("not", S), ("or", S, ("told", len(chosen) - 1, 1)), ("next", 2, S),
                                    ("till", ("not", S), ("told", len(chosen) - 1, 0))))
            house.put(name, ("of", saying, tuple(chosen)))
        else:
            house.put(name, picker.choice(ALL_MAKERS[:20]))
    return house


class Swap(HouseCase):
    def test_for_all(self):
        house = house_of(x=EVEN, y=of("x"))
        for line in EVENS:
            self.done(house, (), house.swap, "x", line)
            self.assert_same(house["x"], line)
        self.refused(house, Differs, house.swap, "x", COINS, name="x", number=2)
        self.refused(house, Differs, house.swap, "x", COINS, None, name="x", number=2)

    def test_first_name_that_differs(self):
        # a hangs on x: its table would be another one, too.
        house = house_of(x=EVEN, a=of("x", ("told", 0, 3)))
        line = ("coins", ((2, 5), ()))
        self.assertEqual(parting(("", "10"), made(line)), 5)
        self.refused(house, Differs, house.swap, "x", line, name="a", number=2)
        self.refused(house, Differs, house.swap, "x", line, ("x",), name="x", number=5)
        self.refused(house, Differs, house.swap, "x", line, ("a", "x"), name="a", number=2)

    def test_unseen(self):
        house = house_of(x=EVEN, y=of("x", ("and", S, ("not", ("told", 0, 0)))), z=of("x", ("told", 0, 2)), w=COINS)
        # y is so of nothing, whatever x is.
        line = ("coins", ((2, 5), ()))
        self.done(house, ("x", "z"), house.swap, "x", line, ())
        house.undo()
        self.done(house, ("x", "z"), house.swap, "x", line, ("w", "y"))
        house.undo()
        self.refused(house, Differs, house.swap, "x", line, ("w", "y", "z"), name="z", number=3)
        self.refused(house, Differs, house.swap, "x", line, ("w", "x", "y", "z"), name="x", number=5)
        self.refused(house, Differs, house.swap, "x", line, name="x", number=5)

    def test_seen_of_all_kinds(self):
        house = house_of(x=EVEN, y=of("x"))
        wrong = tuple(value for value in VALUES if value is not None and value != ())
        for seen in wrong + (("y", "x"), ("x", "x"), ("x", "z"), ("z",), ["x"], ["x", "y"], "x", "xy", ("x", None),
                             (None,),
                             (("x",),), (["x"],), ({},), {"x": 1}, ("x", "y", "z"), ("X",), (True,)):
            self.refused(house, BadSeen, house.swap, "x", EVEN, seen, seen=seen)
        for seen in (None, (), ("x",), ("y",), ("x", "y")):
            self.done(house, (), house.swap, "x", EVEN, seen)

    def test_errors_in_order(self):
        house = house_of(x=EVEN, y=of("x", ("ahead", S)))
        self.refused(house, NoName, house.swap, "z", None, "wrong", name="z")
        self.refused(house, BadSeen, house.swap, "x", None, "wrong", seen="wrong")
        self.refused(house, BadSeen, house.swap, "x", of("x"), ("z",), seen=("z",))
        self.refused(house, BadLine, house.swap, "x", None, (), path=(), word="kind")
        self.refused(house, Ring, house.swap, "x", of("y"), ("x",), name="y")
        self.refused(house, TooGreat, house.swap, "x", FULL_HEAD, ("x",))
        self.refused(house, TooGreat, house.swap, "x", GREAT, ("x", "y"))
        full = full_of_deeds()
        for values in (("z", None, "wrong"), ("a", EVEN, ()), ("a", None, ()), ("a", COINS, ("a",))):
            self.refused(full, Full, full.swap, *values)

    def test_by_swaps_no_table_changes(self):
        picker = random.Random(352)
        for _ in range(25):
            house = random_house(picker, 6)
            before = {name: house.table(name) for name in house.names}
            for _ in range(12):
                name = picker.choice(house.names)
                lines = list(ALL_MAKERS[:30]) + EVENS + [house[other] for other in house.names]
                lines += [("table", house.table(name)), ("saying", ("not", ("not", S)),
                                                         (("table", house.table(name)),))]
                line = picker.choice(lines)
                try:
                    self.assert_same(house.swap(name, line), ())
                except (Differs, Ring):
                    pass
                if picker.random() < 0.2:
                    house.undo() if picker.random() < 0.5 or not house.undone else house.redo()
                    while len(house) < 6:
                        house.redo()
            self.assertEqual({name: house.table(name) for name in house.names}, before)

    def test_of_seen_no_table_changes(self):
        picker = random.Random(353)
        done = 0
        for _ in range(200):
            house = random_house(picker, 5)
            seen = tuple(name for name in house.names if picker.random() < 0.4)
            before = {name: house.table(name) for name in house.names}
            name, line = picker.choice(house.names), picker.choice(ALL_MAKERS)
            try:
                found = house.swap(name, line, seen)
                done += 1
                self.assertEqual(found, tuple(other for other in house.names if house.table(other) != before[other]))
                self.assertFalse(set(found) & set(seen))
            except Differs as error:
                self.assertIn(error.name, seen)
                self.assertEqual(house.table(error.name), before[error.name])
                house.change(name, line)
                self.assertEqual(parting(before[error.name], house.table(error.name)), error.number)
                for other in seen[:seen.index(error.name)]:
                    self.assertEqual(house.table(other), before[other])
        self.assertGreater(done, 30)

    def test_by_name(self):
        house = house_of(x=EVEN)
        self.assert_same(house.swap(name="x", line=EVENS[1], seen=None), ())
        self.assert_same(house.swap(seen=(), line=COINS, name="x"), ("x",))
        self.assert_same(house.swap("x", COINS), ())


class Batch(HouseCase):
    def test_no_deeds(self):
        house = house_of(x=EVEN)
        self.done(house, None, house.batch, ())

    def test_all_deeds(self):
        house = house_of(x=EVEN, y=COINS)
        deeds = (("put", "z", of("x")), ("rename", "x", "w"), ("change", "y", WATCHES), ("swap", "w", EVENS[2]),
                 ("drop", "y"),
                 ("put", "y", of("wz", ("or", S, U))), ("rename", "y", "x"), ("change", "x", of("w")))
        self.done(house, None, house.batch, deeds)
        self.assert_same(house.names, ("w", "x", "z"))
        self.assert_same([house[name] for name in "wxz"], [EVENS[2], of("w"), of("w")])
        self.assertEqual(house.deeds, 3)

    def test_as_the_deeds_one_by_one(self):
        picker = random.Random(354)
        rejected = 0
        for _ in range(300):
            house = random_house(picker, 4)
            deeds = tuple(self.random_deed(picker) for _ in range(picker.randint(1, 3)))
            alone, failed = house.copy(), None
            for place, (word, *items) in enumerate(deeds):
                try:
                    getattr(alone, word)(*items)
                except RoundError:
                    failed = place
                    break
            if failed is None:
                self.done(house, None, house.batch, deeds)
                self.assertEqual(house, alone)
            else:
                rejected += 1
                self.refused(house, Rejected, house.batch, deeds, place=failed)
        self.assertTrue(20 < rejected < 290, rejected)

    def random_deed(self, picker):
        name, other = picker.choice("abcdefgh"), picker.choice("abcdefgh")
        line = picker.choice((EVEN, COINS, of(other), of((other, name)), of((other, other)), TABLE))
        return picker.choice((("put", name, line), ("put", name, line), ("drop", name), ("rename", name, other),
                              ("change", name, line), ("swap", name, line)))

    def test_rejected_in_the_middle(self):
        house = house_of(x=EVEN)
        good = ("put", "y", of("x"))
        for bad in (("put", "x", EVEN), ("put", None, EVEN), ("put", "z", None), ("drop", "w"), ("drop", ["x"]),
                    ("drop", {}),
                    ("rename", "x", "x"), ("rename", None, None), ("change", "x", of("x")), ("change", "w", None),
                    ("swap", "x", COINS), ("swap", (), ()), ("put", "z", GREAT), ("put", [], {})):
            self.refused(house, Rejected, house.batch, (bad,), place=0)
            self.refused(house, Rejected, house.batch, (good, bad), place=1)
            self.refused(house, Rejected, house.batch, (good, ("drop", "y"), bad, ("drop", "nothing")), place=2)
            self.refused(house, Rejected, house.batch, (good,) + (("swap", "y", of("x")),) * 6 + (bad,), place=7)

    def test_eight_and_nine(self):
        house = house_of(x=EVEN)
        deed = ("change", "x", EVEN)
        self.done(house, None, house.batch, (deed,) * 8)
        self.refused(house, BadDeeds, house.batch, (deed,) * 9)
        self.refused(house, BadDeeds, house.batch, (deed,) * 30)

    def test_bad_deeds(self):
        house = house_of(x=EVEN)
        good = ("drop", "x")
        for wrong in VALUES + (("drop",), ("drop", "x", "x"), ("put", "x"), ("put", "x", EVEN, None), ("rename", "x"),
                               ("rename", "x", "y", "z"), ("change", "x"), ("swap", "x", EVEN, None),
                               ("swap", "x", EVEN, ()),
                               ("swap", "x"), ("undo",), ("redo",), ("batch", ()), ("batch", (), ()),
                               ("Put", "x", EVEN),
                               ("put ", "x", EVEN), ["drop", "x"], (("drop",), "x"), (["drop"], "x"), ({}, "x"),
                               "drop x",
                               (None, "x"), ("", "x"), ("kept", len)):
            self.refused(house, BadDeeds, house.batch, (wrong,))
            self.refused(house, BadDeeds, house.batch, (good, wrong))
            self.refused(house, BadDeeds, house.batch, (("drop", "no"), wrong))
            if wrong != ():
                self.refused(house, BadDeeds, house.batch, wrong)
        for wrong in ([good], [["drop", "x"]], {"drop": "x"}, good, (list(good),)):
            self.refused(house, BadDeeds, house.batch, wrong)

    def test_full(self):
        for deeds in ((), None, (("drop", "a"),), (("drop", "z"),)):
            house = full_of_deeds()
            self.refused(house, Full, house.batch, deeds)

    def test_full_is_not_raised_within(self):
        house = full_of_deeds()
        house.undo()
        house.batch((("put", "c", EVEN), ("put", "d", EVEN), ("drop", "c"), ("rename", "d", "c"),
                     ("swap", "c", EVENS[1]),
                     ("change", "c", COINS), ("drop", "c")))
        self.assertEqual((house.deeds, house.undone, house.names), (20, 0, ("a", "b")))
        self.refused(house, Full, house.batch, ())

    def test_too_many_lines_within(self):
        house = house_of(**{name: EVEN for name in "abcdefg"})
        self.refused(house, Rejected, house.batch, (("put", "h", EVEN), ("put", "i", EVEN)), place=1)
        self.done(house, None, house.batch, (("put", "h", EVEN), ("drop", "a"), ("put", "i", EVEN)))

    def test_by_name(self):
        house = house_of(x=EVEN)
        self.assert_same(house.batch(deeds=(("drop", "x"),)), None)
        self.assertEqual(len(house), 0)


class UndoAndRedo(HouseCase):
    def test_nothing(self):
        house = House()
        self.refused(house, NothingToUndo, house.undo)
        self.refused(house, NothingToRedo, house.redo)
        house.put("x", EVEN)
        self.refused(house, NothingToRedo, house.redo)
        self.assertEqual(house.undo(), 0)
        self.refused(house, NothingToUndo, house.undo)
        self.assertEqual(house.redo(), 1)
        self.refused(house, NothingToRedo, house.redo)

    def test_all_the_way(self):
        picker = random.Random(355)
        for _ in range(20):
            house, states = House(), [state(House())[0]]
            while house.deeds < 20:
                self.deed_of_chance(picker, house)
                while len(states) <= house.deeds:
                    states.append(state(house)[0])
            for k in range(19, -1, -1):
                self.assertEqual(house.undo(), k)
                self.assertEqual((state(house)[0], house.undone), (states[k], 20 - k))
            self.refused(house, NothingToUndo, house.undo)
            for k in range(1, 21):
                self.assertEqual(house.redo(), k)
                self.assertEqual((state(house)[0], house.undone), (states[k], 20 - k))
            self.refused(house, NothingToRedo, house.redo)

    def deed_of_chance(self, picker, house):
        name, other = picker.choice("abcdefgh"), picker.choice("abcdefgh")
        line = picker.choice(EVENS + [COINS, of(other), of((other, name))])
        try:
            picker.choice((lambda: house.put(name, line), lambda: house.put(name, line), lambda: house.drop(name),
                           lambda: house.rename(name, other), lambda: house.change(name, line),
                           lambda: house.swap(name, line), lambda: house.swap(name, line, ()),
                           lambda: house.batch((("drop", name), ("put", name, line))),
                           lambda: house.kept(lambda held: held.put(name, line))))()
        except RoundError:
            pass

    def test_redo_is_gone_behind_a_new_deed(self):
        for deed in (lambda house: house.put("z", EVEN), lambda house: house.drop("x"),
                     lambda house: house.rename("x", "w"),
                     lambda house: house.change("x", EVEN), lambda house: house.swap("x", EVEN),
                     lambda house: house.batch(()), lambda house: house.kept(lambda held: None)):
            house = house_of(x=EVEN, y=COINS, v=TABLE)
            house.undo()
            house.undo()
            self.assertEqual((house.deeds, house.undone), (1, 2))
            deed(house)
            self.assertEqual((house.deeds, house.undone), (2, 0))
            self.refused(house, NothingToRedo, house.redo)

    def test_redo_stays_behind_what_is_refused(self):
        house = house_of(x=EVEN, y=COINS)
        house.undo()
        for call in (lambda: house.put("x", EVEN), lambda: house.drop("y"), lambda: house.swap("x", COINS),
                     lambda: house.batch((("drop", "w"),)), lambda: house.batch(None), lambda: house["w"],
                     lambda: house.kept(lambda held: held.drop("w"))):
            self.refused(house, type(error_of(call)), call)
        self.assertEqual(house.redo(), 2)
        self.assert_same(house.names, ("x", "y"))

    def test_looks_do_nothing(self):
        house = house_of(x=EVEN, y=of("x"))
        house.undo()
        before = state(house), history(house)
        for _ in range(2):
            house.table("x"), house.tells("x", 5), house.hangs("x"), house.plain("x"), house.alike(), house.copy()
            len(house), str(house), "x" in house, house["x"], house == House(), house.names
            house.tried(lambda held: held.put("z", EVEN))
        self.assertEqual((state(house), history(house)), before)

    def test_room_behind_undo(self):
        house = full_of_deeds()
        self.assertEqual(house.undo(), 19)
        house.put("c", EVEN)
        self.assertEqual(house.deeds, 20)
        self.refused(house, Full, house.put, "d", EVEN)


def error_of(call):
    try:
        call()
    except Exception as error:
        return error
    raise AssertionError("it raises an error")


class Copy(HouseCase):
    def test_stands_likewise(self):
        picker = random.Random(356)
        for _ in range(15):
            house = random_house(picker, 5)
            house.undo()
            house.undo()
            other = house.copy()
            self.assertIsInstance(other, House)
            self.assertIsNot(other, house)
            self.assertEqual(other, house)
            self.assertEqual((state(other), history(other)), (state(house), history(house)))

    def test_goes_on_by_itself(self):
        house = house_of(x=EVEN, y=of("x"), z=COINS)
        house.undo()
        before = state(house), history(house)
        other = house.copy()
        for deed in (lambda: other.redo(), lambda: other.undo(), lambda: other.undo(), lambda: other.put("w", EVEN),
                     lambda: other.rename("x", "v"), lambda: other.change("v", COINS), lambda: other.drop("w"),
                     lambda: other.batch((("drop", "v"),))):
            deed()
            self.assertEqual((state(house), history(house)), before)
        behind = state(other), history(other)
        house.redo()
        house.change("x", COINS)
        self.assertEqual((state(other), history(other)), behind)
        self.assertNotEqual(house, other)


class Refusal(Exception):
    """An error that no package raises."""


class TriedAndKept(HouseCase):
    def test_what_they_return(self):
        for value in VALUES + (House(), len):
            house = house_of(x=EVEN)
            self.assertIs(house.tried(lambda held: value), value)
            self.assertIs(house.kept(lambda held: value), value)

    def test_they_are_handed_the_house(self):
        house = house_of(x=EVEN)
        self.assertIs(house.tried(lambda held: held), house)
        self.assertIs(house.kept(lambda held: held), house)

    def test_tried(self):
        house = house_of(x=EVEN, y=COINS, z=TABLE)
        house.undo()
        before = state(house), history(house)

        def function(held):
            held.undo()
            held.put("w", of("x"))
            held.change("x", COINS)
            return state(held)

        found = house.tried(function)
        self.assertEqual((state(house), history(house)), before)
        self.assertEqual([line[0] for line in found[0]], ["w", "x"])
        self.assertEqual((found[1], found[2]), (3, 0))
        self.assertEqual(house.redo(), 3)

    def test_kept(self):
        house = house_of(x=EVEN, y=COINS, z=TABLE)
        house.undo()

        def function(held):
            held.put("w", of("x"))
            held.change("x", COINS)
            held.drop("y")
            return held.names

        self.done(house, ("w", "x"), house.kept, function)
        self.assert_same((house.deeds, house.undone, house.names), (3, 0, ("w", "x")))
        self.assertEqual(house.undo(), 2)
        self.assert_same(house.names, ("x", "y"))
        self.assert_same(house["x"], EVEN)

    def test_kept_that_does_nothing(self):
        house = house_of(x=EVEN, y=COINS)
        house.undo()
        self.assertEqual(house.undone, 1)
        self.done(house, None, house.kept, lambda held: None)
        self.assert_same((house.deeds, house.undone, house.names), (2, 0, ("x",)))

    def test_kept_that_takes_back(self):
        house = house_of(x=EVEN, y=COINS, z=TABLE)

        def function(held):
            held.undo()
            held.undo()
            return held.deeds

        self.done(house, 1, house.kept, function)
        self.assert_same((house.deeds, house.undone, house.names), (4, 0, ("x",)))
        for many, names in ((3, ("x", "y", "z")), (2, ("x", "y")), (1, ("x",)), (0, ())):
            self.assertEqual(house.undo(), many)
            self.assert_same(house.names, names)
        self.assertEqual([house.redo() for _ in range(4)], [1, 2, 3, 4])
        self.assert_same(house.names, ("x",))

    def test_kept_that_takes_all_back_and_again(self):
        house = house_of(x=EVEN, y=COINS)

        def function(held):
            while held.deeds:
                held.undo()
            held.redo()

        self.done(house, None, house.kept, function)
        self.assert_same((house.deeds, house.names), (3, ("x",)))

    def test_what_is_raised_goes_on(self):
        for raised in (Refusal("x"), KeyError(3), TooGreat(), Full(), Rejected(2), ZeroDivisionError(),
                       KeyboardInterrupt(),
                       StopIteration(), RoundError()):
            for call in ("tried", "kept"):
                house = house_of(x=EVEN, y=COINS)
                house.undo()
                before = state(house), history(house)

                def function(held):
                    held.redo()
                    held.put("z", of("x"))
                    raise raised

                with self.assertRaises(type(raised)) as caught:
                    getattr(house, call)(function)
                self.assertIs(caught.exception, raised)
                self.assertEqual((state(house), history(house)), before)

    def test_errors_of_deeds_within(self):
        for call in ("tried", "kept"):
            house = house_of(x=EVEN)
            self.refused(house, NoName, getattr(house, call), lambda held: (held.put("y", EVEN), held.drop("z")),
                         name="z")
            self.refused(house, Taken, getattr(house, call), lambda held: (held.put("y", EVEN), held.put("y", EVEN)),
                         name="y")

            def careful(held):
                held.put("y", EVEN)
                try:
                    held.put("y", COINS)
                except Taken:
                    held.put("z", COINS)
                return held.names

            self.assert_same(getattr(house, call)(careful), ("x", "y", "z"))
            self.assert_same(house.names, ("x",) if call == "tried" else ("x", "y", "z"))

    def test_by_its_own_name(self):
        house = house_of(x=EVEN)
        self.assertEqual(house.tried(lambda _: (house.put("y", COINS), house.names)[1]), ("x", "y"))
        self.assert_same(house.names, ("x",))
        self.assertEqual(house.kept(lambda _: (house.put("y", COINS), house.deeds)[1]), 2)
        self.assert_same((house.names, house.deeds), (("x", "y"), 2))

    def test_full_counts_all_deeds(self):
        house = house_of(x=EVEN)

        def function(held):
            count = 0
            while True:
                try:
                    held.change("x", EVEN)
                    count += 1
                except Full:
                    return count, held.deeds

        self.assertEqual(house.tried(function), (19, 20))
        self.assertEqual(house.deeds, 1)
        self.assertEqual(house.kept(function), (19, 20))
        self.assertEqual(house.deeds, 2)
        full = full_of_deeds()
        self.assertEqual(full.tried(function), (0, 20))
        self.refused(full, Full, full.kept, function)
        self.refused(full, Full, full.kept, lambda held: 1 // 0)
        full.undo()
        full.kept(lambda held: held.undo())
        self.assertEqual((full.deeds, full.undone), (20, 0))

    def test_room_within_by_undo(self):
        full = full_of_deeds()
        self.assertEqual(full.tried(lambda held: (held.undo(), held.put("c", EVEN), held.deeds)[2]), 20)
        full.undo()
        # Kept needs room for itself alone; within it what stands then counts.
        self.assertEqual(full.kept(lambda held: (held.put("c", EVEN), held.deeds)[1]), 20)
        self.assertEqual((full.deeds, full.names), (20, ("a", "b", "c")))

    def test_within_one_another(self):
        house = house_of(x=EVEN)

        def nest(deep):
            def function(held):
                if deep == 0:
                    held.put("y", of("x"))
                    return held.deeds
                call = held.kept if deep % 2 else held.tried
                before = held.deeds
                found = call(nest(deep - 1))
                self.assertEqual(held.deeds, before + deep % 2)
                self.assertEqual("y" in held, deep == 1)
                return found
            return function

        self.assertEqual(house.kept(nest(11)), 2)
        self.assert_same((house.names, house.deeds), (("x",), 2))
        self.assertEqual(house.tried(nest(11)), 3)

    def test_kept_within_kept(self):
        house = House()

        def nest(deep):
            def function(held):
                held.put("abcdefgh"[deep % 8], EVEN)
                if deep < 7:
                    held.kept(nest(deep + 1))
                return held.deeds
            return function

        self.assertEqual(house.kept(nest(0)), 2)
        self.assert_same((house.deeds, len(house)), (1, 8))
        house.undo()
        self.assert_same((house.deeds, len(house), house.undone), (0, 0, 1))

    def test_raised_within_one_another(self):
        house = house_of(x=EVEN)

        def inner(held):
            held.put("z", EVEN)
            raise Refusal

        def outer(held):
            held.put("y", EVEN)
            for call in (held.tried, held.kept):
                try:
                    call(inner)
                except Refusal:
                    self.assert_same((held.names, held.deeds), (("x", "y"), 2))
            return held.names

        self.assert_same(house.kept(outer), ("x", "y"))
        self.assertEqual(house.deeds, 2)

    def test_by_name(self):
        house = house_of(x=EVEN)
        self.assertEqual(house.tried(function=lambda held: 3), 3)
        self.assertEqual(house.kept(function=len), 1)
        self.assertEqual(house.deeds, 2)


class WholeHouse(HouseCase):
    def test_by_many_ways(self):
        lines = {"a": EVEN, "b": of("a"), "c": COINS, "d": of("cb")}
        wanted = house_of(**lines)
        for order in itertools.permutations(lines):
            house = House()
            for name in order:
                house.put(name, TABLE)
            for name in lines:
                house.change(name, lines[name])
            self.assertEqual(house, wanted)
            self.assertEqual(state(house)[0], state(wanted)[0])
        for new in ("x", "y"):
            house = house_of(**lines)
            house.rename("a", new)
            self.assertNotEqual(house, wanted)
            house.rename(new, "a")
            self.assertEqual(house, wanted)
        house = House()
        house.batch(tuple(("put", name, line) for name, line in lines.items()))
        self.assertEqual(house, wanted)

    def test_what_is_handed_in_stays(self):
        picker = random.Random(357)
        for line, _ in picker.sample(wrong_lines(), 40):
            before = repr(line)
            house = house_of(x=EVEN, y=COINS)
            self.assertRaises(BadLine, house.put, "z", line)
            self.assertEqual(repr(line), before)

    def test_quick_at_the_bounds(self):
        table = ("table", ("1" * 700 + "0", "0" * 499 + "1"))
        house = House()
        house.put("a", table)
        for ahead, name in zip("abcdefg", "bcdefgh"):
            house.put(name, ("of", ("or", ("since", S, U), ("told", 2, 20)), (ahead, "a", ahead)))
        self.quick(lambda: house.copy().change("a", ("table", ("1" * 200 + "0", "0" * 499 + "1"))))
        self.quick(lambda: house.copy().swap("a", table))
        self.quick(house.alike)
        for name in house.names:
            self.assert_same(house.table(name), reckoned_once(house, name, {}))

    def test_sayings_as_lines(self):
        for maker in SAYINGS:
            house = house_of(x=maker, y=("of", ("told", 0, 0), ("x",)))
            self.assert_same(house.table("y"), made(maker))
            self.assert_same(house.alike(), (("x", "y"),))
        self.assertEqual(house_of(x=("table", just((3,)))).table("x"), ("0001", "0"))


def reckoned_once(house, name, found):
    if name not in found:
        line = house[name]
        if line[0] == "of":
            found[name] = truth(line[1], tuple(reckoned_once(house, other, found) for other in line[2]))
        else:
            found[name] = made(line)
    return found[name]


if __name__ == "__main__":
    unittest.main()
