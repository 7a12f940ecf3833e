"""What the document promises over the whole program: one table for each set, whatever makes it."""

import importlib
import inspect
import itertools
import random
import unittest

from leastmakers import errors
from leastmakers.errors import Differs, TooDeep, TooGreat, TooMany
from leastmakers.house import House
from leastmakers.joins import contrary
from leastmakers.leastrules import told_sum
from leastmakers.makers import least_makers, made, maker_error, parted, same_made
from leastmakers.papers import finding, finding_holds, paper, paper_holds
from leastmakers.shells import Shell
from leastmakers.tables import has, least, signs
from leastmakers.texts import line_text, maker_text, read_line, read_maker
from leastmakers.watches import fewest_watches
from makerforms import ALL_MAKERS, KINDS, S, plain_made
from reckoning import Case, least_tables, row

INTERFACE = {
    "bounds": "MAX_HEAD MAX_TURN MAX_FIRST MAX_WATCH MAX_WATCHES MAX_WIDEST MAX_COIN MAX_TIMES MAX_COINS MAX_PLACES "
              "MAX_STEP MAX_ROUND MAX_NUMBER MAX_MORE MAX_TAKE MAX_LINES MAX_DEEDS",
    "tables": "table_error(value) least(table) is_least(table) has(table,number) signs(table,many) same(one,other) "
              "parting(one,other) within(one,other) escape(one,other) just(numbers) each_step(first,step) EMPTY ALL",
    "joins": "both(one,other) either(one,other) but(one,other) contrary(table) moved(table,by) back(table,by) "
             "spread(table,times) steps(table,first,step) sums(one,other) star(table) picked(one,other) "
             "counted(one,other)",
    "counts": "below(table,number) kth(table,place) next_from(table,number) last(table) is_endless(table) share(table) "
              "widest(table)",
    "watches": "watches_error(value) held(watches) going(watches,many) hands(watches,number) meeting(one,other) "
               "greatest_turn(many,total) longest_watches(many,total) widest_watches(table) fewest_watches(table)",
    "coins": "purse_error(value) paid(purse) pay(purse,amount) pay_holds(purse,amount,value) leasts(purse) "
             "last_gap(purse) gaps(purse) greatest_gap(most) gap_purse(most) own_coins(free) fewest(coins,amount) "
             "greedy(coins,amount) greedy_right(coins) greedy_error(coins)",
    "coinpapers": "purse_paper(table) purse_holds(table,value) coin_paper(purse,amount) coin_holds(purse,amount,value)",
    "webs": "web_error(value) walked(web) walk(web,number) is_walk(web,number,value) tour(web,number) "
            "is_tour(web,number,value) reached(web) knots(web) bare(web) lasso(table) web_head(many) web_turn(many)",
    "books": "book_error(value) derived(book) least_made(book) idle(book) without(book,places) "
             "fewest_rules(book,name,number)",
    "bookpapers": "uses(book,name,number) uses_hold(book,name,number,value) is_closed(book,value) "
                  "bar(book,name,number) bars(book,name,number,value)",
    "programs": "program_error(value) answer(program,number) stands(program,number,count) length(program,number) "
                "falls(program) ends(program) ends_at(program) met(program) same_ends(one,other) "
                "ends_parted(one,other)",
    "programpapers": "way_round(program,number) way_round_holds(program,number,value)",
    "games": "game_error(value) lost(game) lost_last(game) lost_holds(game,value) worth(game,number) worths(game) "
             "of_worth(game,worth) is_lost(game,heaps,rule) best(game,heaps,rule) may_come(game,most) needless(game) "
             "slim(game) games_for(table) longest_turn(most)",
    "rows": "rule_error(value) values(rule,many) value_at(rule,number) round_of(rule) reads(rule,value) "
            "longest_row(prime,order)",
    "leastrules": "makes(modulus,value,stretch) refused_at(modulus,factors,stretch) least_sum(modulus,stretch) "
                  "refusals(modulus,stretch,many) fewest_factors(prime,stretch) least_factors(prime,stretch) "
                  "profile(prime,stretch) lack(prime,stretch,many) is_lack(prime,stretch,many,value) told_sum(table) "
                  "memory(table) fork(table,many) is_fork(table,many,value)",
    "sayings": "saying_error(value) truth(saying,tables) shown_at(saying,tables,number)",
    "notes": "notes(saying,tables) always(saying,tables) often(saying,tables) are_same(saying,other,tables) "
             "parted_at(saying,other,tables)",
    "makers": "maker_error(value) made(maker) same_made(one,other) parted(one,other) least_makers(table)",
    "papers": "paper(maker,number) paper_holds(maker,number,value) finding(one,other) finding_holds(one,other,value)",
    "texts": "table_text(table) read_table(value) maker_text(maker) read_maker(value) line_text(line) read_line(value)",
}
HOUSE = ("put(name,line) drop(name) rename(old,new) change(name,line) swap(name,line,seen=None) batch(deeds) undo() "
         "redo() table(name) tells(name,number) hangs(name) plain(name) alike() copy() tried(function) kept(function)")
ERRORS = ("TooGreat() TooMany(limit) NoFree() NoOne() BadMaker(path,word) BadLine(path,word) BadName(name) Taken(name) "
          "NoName(name) Hangs(name) Ring(name) BadSeen(seen) Differs(name,number) TooDeep() BadDeeds() "
          "Rejected(place) Full() NothingToUndo() NothingToRedo() BadText(place)")


def written(function, skipped=0):
    """The name and the arguments of a function, as the interface writes them."""
    arguments = list(inspect.signature(function).parameters.values())[skipped:]
    return f"{function.__name__}({','.join(str(argument).replace(' ', '') for argument in arguments)})"


class Interface(Case):
    def test_functions_stand_under_their_names(self):
        for name, words in INTERFACE.items():
            module = importlib.import_module("leastmakers." + name)
            for word in words.split():
                found = getattr(module, word.split("(")[0])
                if "(" in word:
                    self.assertEqual(written(found), word)
                    self.assertEqual(found.__module__, "leastmakers." + name)

    def test_classes(self):
        for word in HOUSE.split():
            method = vars(House)[word.split("(")[0]]
            self.assertEqual(written(method, 1), word)
        self.assertEqual(written(vars(Shell)["say"], 1), "say(line)")
        self.assertEqual(str(inspect.signature(House)), "()")
        self.assertEqual(str(inspect.signature(Shell)), "(house)")
        self.assertEqual((House.__module__, Shell.__module__), ("leastmakers.house", "leastmakers.shells"))

    def test_errors(self):
        for word in ERRORS.split():
            name, _, arguments = word.rstrip(")").partition("(")
            error = getattr(errors, name)
            self.assertEqual(error.__bases__, (errors.RoundError,))
            names = arguments.split(",") if arguments else []
            raised = error(*range(len(names)))
            self.assertEqual([getattr(raised, one) for one in names], list(range(len(names))))
        self.assertEqual(errors.RoundError.__bases__, (ValueError,))


def by_rest(table):
    """A program that tells a table without a head, by one rest; None for one with a head."""
    head, turn = table
    if head:
        return None
    tos = tuple(1 if sign == "1" else 2 for sign in turn)
    return ("program", (("rest", len(turn), tos), ("end", "yes"), ("end", "no")), "yes")


def by_rules(table):
    """A book of two names: the head number by number, the turn by rounds of the second name."""
    head, turn = table
    text = head + turn
    rules = [(0, n, () if n < len(head) else (1,)) for n, sign in enumerate(text) if sign == "1"]
    return ("book", (2, tuple(sorted(rules + [(1, 0, ()), (1, len(turn), (1,))]))), 0)


def by_sum(table):
    """A row modulo 2, if the told sum of the table is of one to four numbers."""
    factors = told_sum(table)
    begin = tuple(int(sign) for sign in signs(table, len(factors)))
    return ("row", (2, factors, begin), 1)


def makers_of(table):
    """Makers, of all kinds that have one, of the table."""
    found = [("table", table), ("saying", ("not", S), (("table", contrary(table)),)),
             ("saying", ("or", ("and", S, ("told", 1, 0)), S), (("table", table), ("table", ("", "10"))))]
    found += [by_rest(table), by_rules(table), by_sum(table)]
    found += [maker for maker in least_makers(table) if maker is not None]
    try:
        found.append(("watches", fewest_watches(table)))
    except TooMany:
        pass
    return [maker for maker in found if maker_error(maker) is None]


TABLES = least_tables(2, 3) + [("", "111010"), ("", "1100"), ("1010", "1"), ("10010110", "1"), ("", "11000"),
                               ("", "100000")]


class OneTable(Case):
    def test_makers_of_all_kinds(self):
        kinds = set()
        for table in TABLES:
            makers = makers_of(table)
            kinds |= {maker[0] for maker in makers}
            for maker in makers:
                self.assert_same(made(maker), table)
            for one, other in itertools.product(makers, repeat=2):
                self.assert_same(same_made(one, other), True)
                self.assert_same(parted(one, other), None)
            for one, other in zip(makers, makers[1:] + makers[:1]):
                self.assert_same(finding(one, other), ("alike", table))
                self.assertTrue(finding_holds(one, other, ("alike", table)))
        self.assertEqual(kinds, set(KINDS))

    def test_in_a_house(self):
        for table in TABLES:
            makers = makers_of(table)
            house = House()
            for name, maker in zip("abcdefgh", makers):
                self.assert_same(house.put(name, maker), table)
            self.assert_same(house.alike(), (house.names,))
            house = House()
            house.put("x", makers[0])
            house.put("y", ("of", ("next", 1, ("not", S)), ("x",)))
            before = house.table("y")
            for maker in makers:
                self.assert_same(house.swap("x", maker), ())
                self.assert_same((house.table("x"), house.table("y")), (table, before))

    def test_sets_that_differ(self):
        picker = random.Random(381)
        for _ in range(150):
            left, right = picker.choice(TABLES), picker.choice(TABLES)
            if left != right:
                one, other = picker.choice(makers_of(left)), picker.choice(makers_of(right))
                number = next(n for n, (a, b) in enumerate(zip(row(left, 60), row(right, 60))) if a != b)
                self.assert_same(parted(one, other), (number, 0 if has(left, number) else 1))
                found = finding(one, other)
                self.assertEqual(found[:2], ("parted", number))
                self.assertTrue(finding_holds(one, other, found))
                house = House()
                house.put("x", one)
                with self.assertRaises(Differs) as caught:
                    house.swap("x", other)
                self.assert_same((caught.exception.name, caught.exception.number), ("x", number))
                shell = Shell(house)
                self.assert_same(shell.say("swap x " + maker_text(other)), "no Differs")
                house.put("y", other)
                self.assert_same(shell.say("parted x y"), f"{number} {'x' if has(left, number) else 'y'}")

    def test_papers_of_makers_of_one_set(self):
        for table in TABLES[::4]:
            for maker in makers_of(table):
                for number in (0, 1, 2, 3, 4, 5, 50, 1000):
                    found = paper(maker, number)
                    self.assertEqual(found[0] == "yes", has(table, number))
                    self.assertTrue(paper_holds(maker, number, found))

    def test_texts_of_makers_of_one_set(self):
        for table in TABLES:
            for maker in makers_of(table):
                self.assert_same(read_maker(maker_text(maker)), maker)

    def test_tables_are_least(self):
        for maker in ALL_MAKERS:
            self.assert_same(least(made(maker)), plain_made(maker))


class Houses(Case):
    def test_by_texts(self):
        picker = random.Random(382)
        for _ in range(30):
            house, other = House(), House()
            shell = Shell(other)
            for name in picker.sample("abcdefgh", 6):
                names = house.names
                if names and picker.random() < 0.5:
                    line = ("of", ("or", S, ("told", 0, 2)), (picker.choice(names),))
                else:
                    line = picker.choice(ALL_MAKERS)
                try:
                    house.put(name, line)
                except TooGreat:
                    self.assertEqual(shell.say(f"put {name} {line_text(line)}"), "no TooGreat")
                    continue
                self.assertEqual(shell.say(f"put {name} {line_text(line)}"), f"ok {house.deeds}")
            self.assertEqual(house, other)
            for name in house.names:
                self.assert_same(read_line(shell.say(f"text {name}")), house[name])
                self.assertEqual(shell.say(f"hangs {name}"), " ".join(house.hangs(name)) or "none")
            for name in house.names:
                try:
                    self.assert_same(made(house.plain(name)), house.table(name))
                except TooDeep:
                    self.assertEqual(house[name][0], "of")

    def test_by_undo_and_redo(self):
        house = House()
        for name, maker in zip("abcdefgh", ALL_MAKERS[::5]):
            house.put(name, maker)
        wanted = house.copy()
        for _ in range(3):
            for _ in range(5):
                house.undo()
            self.assertNotEqual(house, wanted)
            for _ in range(5):
                house.redo()
            self.assertEqual(house, wanted)


if __name__ == "__main__":
    unittest.main()
