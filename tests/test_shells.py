import random
import unittest

from leastmakers.errors import RoundError
from leastmakers.house import House
from leastmakers.shells import Shell
from leastmakers.tables import has, parting
from leastmakers.texts import line_text, maker_text, read_line, table_text
from makerforms import ALL_MAKERS, COINS, GREAT_BOOK, S, TABLE, TEXT_WORDS, WATCHES
from reckoning import VALUES, Case

EVEN = ("watches", ((0, 2),))
TEXT = "watches 1 0 2"


class ShellCase(Case):
    def say(self, shell, line, wanted):
        """The shell answers the line so, and its history has the pair last."""
        before = shell.history
        self.assert_same(shell.say(line), wanted)
        self.assert_same(shell.history, (before + ((line if type(line) is str else None, wanted),))[-10:])

    def talk(self, *pairs, shell=None):
        """A shell, of a new house if none is handed, that answers all lines as told."""
        shell = shell or Shell(House())
        for line, wanted in pairs:
            self.say(shell, line, wanted)
        return shell


class Example(ShellCase):
    def test_example(self):
        self.talk(("put x coins 1 2 0", "ok 1"), ("swap x watches 1 0 2", "ok 2"),
                  ("swap x watches 1 1 2", "no Differs"),
                  ("table x", "- 10"), ("put y of not told 0 0 1 x", "ok 3"), ("table y", "- 01"),
                  ("change x coins 1 3 0", "ok 4"),
                  ("table y", "- 011"), ("drop x", "no Hangs"), ("undo", "ok 3"))


class Deeds(ShellCase):
    def test_all_deeds(self):
        house = House()
        shell = Shell(house)
        self.talk(("put x " + TEXT, "ok 1"), ("put yy coins 2 3 5 0", "ok 2"),
                  ("put z of and told 0 0 told 1 0 2 x yy", "ok 3"),
                  ("rename x a", "ok 4"), ("text z", "of and told 0 0 told 1 0 2 a yy"), ("change yy game 1 2", "ok 5"),
                  ("swap a coins 1 2 0", "ok 6"), ("drop z", "ok 7"), ("undo", "ok 6"), ("undo", "ok 5"),
                  ("redo", "ok 6"),
                  ("redo", "ok 7"), ("names", "a yy"), shell=shell)
        self.assert_same(house.names, ("a", "yy"))
        self.assert_same(house["a"], ("coins", ((2,), ())))
        self.assert_same((house.deeds, house.undone), (7, 0))

    def test_every_maker(self):
        for maker in ALL_MAKERS:
            house = House()
            text = maker_text(maker)
            self.talk((f"put x {text}", "ok 1"), ("text x", text), (f"swap x {text}", "ok 2"),
                      (f"change x {text}", "ok 3"),
                      ("table x", None or table_text(table_of(text))), shell=Shell(house))
            self.assert_same(house["x"], maker)

    def test_how_many_stand(self):
        shell = Shell(House())
        self.say(shell, "put x " + TEXT, "ok 1")
        for many in range(2, 21):
            self.say(shell, "change x " + TEXT, f"ok {many}")
        for line in ("change x " + TEXT, "swap x " + TEXT, "put y " + TEXT, "drop x", "rename x y", "drop nothing",
                     "put X " + TEXT):
            self.say(shell, line, "no Full")
        for many in range(19, -1, -1):
            self.say(shell, "undo", f"ok {many}")
        self.say(shell, "undo", "no NothingToUndo")
        for many in range(1, 21):
            self.say(shell, "redo", f"ok {many}")
        self.say(shell, "redo", "no NothingToRedo")

    def test_errors(self):
        great = maker_text(("book", GREAT_BOOK, 0))
        shell = self.talk(("put x " + TEXT, "ok 1"), ("put y of not told 0 0 1 x", "ok 2"))
        for line, error in (
                ("put X " + TEXT, "BadName"), ("put abcdefghi " + TEXT, "BadName"), ("put 1 " + TEXT, "BadName"),
                ("put  " + TEXT, "BadName"), ("put x " + TEXT, "Taken"), ("put z of told 0 0 1 w", "BadLine"),
                ("put z of told 0 0 1 z", "BadLine"), (f"put z {great}", "TooGreat"), ("drop z", "NoName"),
                ("drop x", "Hangs"),
                ("drop ", "NoName"), ("rename z w", "NoName"), ("rename x X", "BadName"), ("rename x y", "Taken"),
                ("rename x x", "Taken"), ("rename  ", "NoName"), ("change z " + TEXT, "NoName"),
                ("change x of told 0 0 1 w", "BadLine"),
                ("change x of told 0 0 1 y", "Ring"), ("swap x of told 0 0 1 x", "Ring"),
                (f"change x {great}", "TooGreat"),
                ("swap z " + TEXT, "NoName"), ("swap x coins 1 3 0", "Differs"), ("swap y " + TEXT, "Differs"),
                ("table z", "NoName"), ("text z", "NoName"), ("hangs z", "NoName"), ("tells z 3", "NoName"),
                ("tells  3", "NoName"),
                ("parted x z", "NoName"), ("parted z x", "NoName"), ("parted  x", "NoName"), ("redo", "NothingToRedo")):
            self.say(shell, line, "no " + error)
        self.say(shell, "names", "x y")

    def test_too_many_lines(self):
        shell = Shell(House())
        for many, name in enumerate("abcdefgh", 1):
            self.say(shell, f"put {name} {TEXT}", f"ok {many}")
        self.say(shell, "put i " + TEXT, "no TooMany")
        self.say(shell, "put a " + TEXT, "no Taken")

    def test_text_is_read_ahead_of_all_else(self):
        full = House()
        full.put("x", EVEN)
        while full.deeds < 20:
            full.change("x", EVEN)
        for house in (House(), full):
            shell = Shell(house)
            for word in ("put", "change", "swap"):
                for name in ("x", "z", "X", "", "1"):
                    for text in ("", "x", "coins", "table - 11", "coins 7 1", TEXT + " ", TEXT + " 1", " " + TEXT,
                                 "of told 0 0 1 X",
                                 "watches 1 01 2", "saying " + "not " * 3000 + "told 0 0 1 table - 1",
                                 "of told 1 0 1 x"):
                        self.say(shell, f"{word} {name} {text}", "no BadText")

    def test_a_line_over_names_that_are_not_there(self):
        self.talk(("put x of told 0 0 1 y", "no BadLine"), ("put y " + TEXT, "ok 1"), ("put x of told 0 0 1 y", "ok 2"))

    def test_names_like_words(self):
        for name in TEXT_WORDS + ("put", "change", "swap", "drop", "rename", "undo", "redo", "names", "text", "tells",
                                  "hangs", "alike", "parted", "none", "what", "ok"):
            line = f"of not told 0 0 1 {name}"
            self.talk((f"put y {line}", "no BadLine"), (f"put {name} {TEXT}", "ok 1"), (f"put y {line}", "ok 2"),
                      ("table y", "- 01"), ("text y", line), (f"hangs {name}", "y"), (f"tells {name} 4", "yes"),
                      (f"parted y {name}", f"0 {name}"), (f"swap y {line}", "ok 3"), (f"change y {line}", "ok 4"),
                      (f"change {name} of told 0 0 1 {name}", "no Ring"), (f"drop {name}", "no Hangs"),
                      (f"rename {name} z", "ok 5"), ("text y", "of not told 0 0 1 z"), (f"rename z {name}", "ok 6"),
                      ("text y", line), ("names", " ".join(sorted(["y", name]))), ("drop y", "ok 7"),
                      (f"drop {name}", "ok 8"), ("names", "none"))


def table_of(text):
    house = House()
    return house.put("x", read_line(text))


class Looks(ShellCase):
    def test_empty_house(self):
        self.talk(("names", "none"), ("alike", "none"), ("hangs x", "no NoName"), ("undo", "no NothingToUndo"))

    def test_names(self):
        self.talk(("put yy " + TEXT, "ok 1"), ("names", "yy"), ("put a " + TEXT, "ok 2"), ("names", "a yy"))

    def test_hangs(self):
        self.talk(("put b " + TEXT, "ok 1"), ("hangs b", "none"), ("put c of not told 0 0 1 b", "ok 2"),
                  ("hangs b", "c"),
                  ("put a of told 1 0 2 b c", "ok 3"), ("hangs b", "a c"), ("hangs c", "a"), ("hangs a", "none"))

    def test_alike(self):
        self.talk(("put d " + TEXT, "ok 1"), ("alike", "d"), ("put c coins 1 2 0", "ok 2"), ("alike", "c d"),
                  ("put a game 2 2 3", "ok 3"), ("alike", "a / c d"), ("put b of not told 0 0 1 c", "ok 4"),
                  ("alike", "a / b / c d"),
                  ("put e table - 01", "ok 5"), ("alike", "a / b e / c d"))

    def test_tables_and_texts(self):
        house = House()
        house.put("x", COINS)
        house.put("y", WATCHES)
        house.put("z", ("of", ("and", S, ("told", 1, 2)), ("x", "y")))
        shell = Shell(house)
        for name in house.names:
            self.say(shell, f"table {name}", table_text(house.table(name)))
            self.say(shell, f"text {name}", line_text(house[name]))
            for number in (0, 1, 2, 3, 10, 999999999999999999):
                self.say(shell, f"tells {name} {number}", "yes" if has(house.table(name), number) else "no")

    def test_tells(self):
        shell = self.talk(("put x watches 1 7 10", "ok 1"))
        for number, answer in (("7", "yes"), ("17", "yes"), ("0", "no"), ("8", "no"), ("9" * 18, "no"),
                               ("9" * 17 + "7", "yes"),
                               ("1" + "0" * 17, "no")):
            self.say(shell, f"tells x {number}", answer)
        for number in ("07", "00", "-7", "+7", "7.0", "", "x", "7 ", "7 7", " 7", "1" + "0" * 18, "9" * 17 + "07",
                       "9" * 19, "1" * 5000,
                       "1e3", "1_0", "\t7", "7\n", "\u0667", "\u00b2"):
            self.say(shell, f"tells x {number}", "what")
            self.say(shell, f"tells z {number}", "what")
        for wrong in ("tells x", "tells", "tells 7", "tells x 7 7", "tells x 7 "):
            self.say(shell, wrong, "what")

    def test_parted(self):
        shell = self.talk(("put a coins 2 2 5 0", "ok 1"), ("put b watches 1 0 2", "ok 2"),
                          ("put c coins 1 2 0", "ok 3"),
                          ("parted a b", "5 a"), ("parted b a", "5 a"), ("parted b c", "alike"),
                          ("parted c b", "alike"),
                          ("parted a a", "alike"), ("put d table - 0", "ok 4"), ("parted d b", "0 b"),
                          ("parted b d", "0 b"))
        self.say(shell, "parted a", "what")
        self.say(shell, "parted a b c", "what")

    def test_parted_of_many(self):
        picker = random.Random(371)
        for _ in range(60):
            house = House()
            house.put("x", picker.choice(ALL_MAKERS))
            house.put("y", picker.choice(ALL_MAKERS))
            number = parting(house.table("x"), house.table("y"))
            wanted = "alike" if number is None else f"{number} {'x' if house.tells('x', number) else 'y'}"
            self.talk(("parted x y", wanted), ("parted y x", wanted), shell=Shell(house))


class What(ShellCase):
    def test_no_strings(self):
        shell = Shell(House())
        for value in VALUES + (b"names", ["names"], ("names",), {"names": 1}):
            if type(value) is not str:
                before = repr(value)
                self.say(shell, value, "what")
                self.assertEqual(repr(value), before)
                self.assertIs(shell.history[-1][0], None)

    def test_strings_of_no_words(self):
        shell = self.talk(("put x " + TEXT, "ok 1"))
        for value in VALUES + ("", " ", "  ", "Names", "NAMES", "name", "namess", "puts x coins 1 2 0", "x", "quit",
                               "help", "history",
                               "say names", "copy", "plain x", "batch", "names\n", "\tnames", "what", "ok 1"):
            if type(value) is str:
                self.say(shell, value, "what")

    def test_too_few_and_too_many_words(self):
        shell = self.talk(("put x " + TEXT, "ok 1"), ("put y " + TEXT, "ok 2"))
        for word, many in (("drop", 1), ("rename", 2), ("undo", 0), ("redo", 0), ("names", 0), ("text", 1),
                           ("table", 1), ("tells", 2),
                           ("hangs", 1), ("alike", 0), ("parted", 2)):
            for count in range(6):
                if count != many:
                    self.say(shell, " ".join([word] + ["x", "y", "x", "y", "x"][:count]), "what")
                    self.say(shell, " ".join([word] + [""] * count), "what")
        for word in ("put", "change", "swap"):
            self.say(shell, word, "what")
            self.say(shell, word + " x", "what")
            self.say(shell, word + " ", "what")
        self.say(shell, "names", "x y")

    def test_blanks(self):
        shell = self.talk(("put x " + TEXT, "ok 1"))
        for line in (" names", "names ", " put y " + TEXT, "  undo", "undo ", " ", "alike  ", "redo  ", "table x ",
                     "table  x",
                     " table x", "hangs x ", "drop x ", "parted x x ", "rename x y "):
            self.say(shell, line, "what")
        # Here the words are as many as told, some of them "".
        for line, answer in (("table ", "no NoName"), ("drop ", "no NoName"), ("rename  x", "no NoName"),
                             ("rename x ", "no BadName"),
                             ("parted x ", "no NoName"), ("put y ", "no BadText"), ("put  ", "no BadText"),
                             ("put y  " + TEXT, "no BadText"), ("put  " + TEXT, "no BadName")):
            self.say(shell, line, answer)
        self.say(shell, "names", "x")

    def test_tabs_are_no_blanks(self):
        self.talk(("put\tx\t" + TEXT, "what"), ("put x watches\t1 0 2", "no BadText"), ("names\t", "what"))


class History(ShellCase):
    def test_new(self):
        shell = Shell(House())
        self.assert_same(shell.history, ())

    def test_last_ten(self):
        shell = Shell(House())
        pairs = []
        for many in range(25):
            line = ("names", None, f"put x{many} x", 7, "", "alike")[many % 6]
            answer = shell.say(line)
            pairs.append((line if type(line) is str else None, answer))
            self.assert_same(shell.history, tuple(pairs[-10:]))
        self.assertEqual(len(shell.history), 10)

    def test_it_can_only_be_read(self):
        shell = self.talk(("names", "none"))
        with self.assertRaises(AttributeError):
            shell.history = ()
        self.assertIsInstance(Shell.history, property)
        self.assert_same(shell.history, (("names", "none"),))
        for name in ("say", "history"):
            self.assertIn(name, vars(Shell))

    def test_earlier_histories_stay(self):
        shell = self.talk(("names", "none"))
        earlier = shell.history
        shell.say("alike")
        self.assert_same(earlier, (("names", "none"),))


class BesideTheShell(ShellCase):
    def test_deeds_on_the_house(self):
        house = House()
        shell = Shell(house)
        house.put("x", EVEN)
        self.say(shell, "names", "x")
        self.say(shell, "change x coins 1 3 0", "ok 2")
        self.assert_same(house["x"], ("coins", ((3,), ())))
        house.undo()
        self.say(shell, "table x", "- 10")
        self.say(shell, "redo", "ok 2")
        house.batch((("put", "y", TABLE), ("put", "z", ("of", S, ("x", "y")))))
        self.say(shell, "hangs x", "z")
        self.say(shell, "undo", "ok 2")
        self.assertEqual(house.undone, 1)

    def test_two_shells(self):
        house = House()
        one, other = Shell(house), Shell(house)
        self.say(one, "put x " + TEXT, "ok 1")
        self.say(other, "names", "x")
        self.say(other, "drop x", "ok 2")
        self.say(one, "names", "none")
        self.assert_same(other.history, (("names", "x"), ("drop x", "ok 2")))

    def test_in_tried_and_kept(self):
        house = House()
        shell = Shell(house)
        self.assertEqual(house.tried(lambda held: shell.say("put x " + TEXT)), "ok 1")
        self.say(shell, "names", "none")
        self.assertEqual(house.kept(lambda held: [shell.say("put x " + TEXT), shell.say("put y " + TEXT)]),
                         ["ok 1", "ok 2"])
        self.assertEqual(house.deeds, 1)
        self.say(shell, "names", "x y")
        self.assertEqual(len(shell.history), 5)

    def test_refused_lines_do_nothing(self):
        house = House()
        shell = Shell(house)
        shell.say("put x " + TEXT)
        shell.say("put y of not told 0 0 1 x")
        shell.say("undo")
        before = house.copy()
        for line in ("put y x", "put X " + TEXT, "drop z", "rename x x", "change x of told 0 0 1 x",
                     "swap x coins 1 3 0", "what",
                     "tells x 3", "names", "table x", None, "alike", "parted x x", "hangs x", "text x"):
            shell.say(line)
            self.assertEqual(house, before)
            self.assertEqual((house.deeds, house.undone), (1, 1))

    def test_by_name(self):
        shell = Shell(house=House())
        self.assert_same(shell.say(line="names"), "none")

    def test_long_lines(self):
        shell = Shell(House())
        for line, answer in (("put x " + "saying " * 2800, "no BadText"), ("names " * 3000, "what"),
                             (" " * 20000, "what"),
                             ("put x table " + "1" * 4999 + "0 " + "0" * 4999 + "1", "ok 1"), ("x" * 20000, "what")):
            self.assert_same(shell.say(line), answer)
        self.assert_same(shell.say("table x"), "1" * 4999 + "0 " + "0" * 4999 + "1")

    def test_only_errors_of_the_package_are_answered(self):
        class Broken(House):
            """A house whose looks raise errors of Python's own."""

            def table(self, name):
                raise KeyError(name)

        self.assertRaises(KeyError, Shell(Broken()).say, "table x")
        self.assertTrue(issubclass(RoundError, ValueError))


if __name__ == "__main__":
    unittest.main()
