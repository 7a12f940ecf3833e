import itertools
import random
import unittest

from leastmakers.errors import BadText, RoundError
from leastmakers.makers import made, maker_error
from leastmakers.sayings import saying_error
from leastmakers.tables import ALL, EMPTY
from leastmakers.texts import line_text, maker_text, read_line, read_maker, read_table, table_text
from makerforms import ALL_MAKERS, COINS, DEEP, FIB, KINDS, PLAIN, S, TABLE, TEXT_WORDS, WRONG
from programforms import P, Q
from reckoning import VALUES, Case, longer, small_tables
from sayingforms import cases, highest, one_in_another

A = ("coins", ((2, 5), ()))
LINES = [("of", S, ("x",)), ("of", ("not", S), ("abcdefgh",)), ("of", ("and", S, ("told", 1, 0)), ("x", "x")),
         ("of", ("since", ("told", 2, 20), ("next", 20, S)), ("of", "told", "x")),
         ("of", ("ahead", S), ("a", "b", "c"))]

# The words of texts that have all forms of parts, with what each word is.
TEXTS = ["table - 01", "table 0110 01", "watches 2 0 2 1 3", "coins 2 2 5 0", "coins 1 6 1 4 1", "coins 0 1 2 2",
         "web 3 4 0 1 1 2 2 0 2 1 1 0", "web 1 0 0", "game 2 2 3", "book 2 3 0 0 2 1 1 1 2 0 1 3 1 1 0", "book 3 0 2",
         "program 4 take 2 0 1 take 1 2 3 end no end yes yes", "program 3 rest 3 1 2 0 end yes add 3 2 never",
         "row 2 2 1 1 0 1 0", "row 9 1 8 4 7", "saying and told 0 0 not told 1 20 2 table - 1 game 1 2",
         "saying since from told 0 1 till some told 0 0 next 2 ahead or told 0 0 told 0 0 1 coins 1 3 0"]
LINE_TEXTS = TEXTS + ["of told 0 0 1 x", "of and told 0 0 told 2 3 3 abc x abc", "of next 0 told 0 0 2 yes of"]

# Words that have no form, wherever they stand.
NO_WORDS = ["", "-1", "+1", "01", "00", "1.0", "1e3", "1_0", "1000000", "9999999999", "X", "no!", "\t", "1\n", "0x1",
            "--",
            "abcdefghi", "Table", "yes,", "1,", "a1", "1a", "\n", "None", "x" * 5001]


def splits(text):
    """All pairs of a prefix of so many words and this number."""
    words = text.split(" ")
    return [(" ".join(words[:many]), many) for many in range(1, len(words))]


class TextCase(Case):
    def bad(self, read, value, place):
        """Reading raises BadText with this place, twice."""
        for _ in range(2):
            with self.assertRaises(BadText) as caught:
                self.quick_call(read, value)
            self.assert_same(caught.exception.place, place)
            self.assertIsInstance(caught.exception, RoundError)

    def quick_call(self, read, value):
        before = repr(value)
        try:
            return read(value)
        finally:
            self.assertEqual(repr(value), before)


class TableTexts(TextCase):
    def test_text_and_back(self):
        for table in small_tables(3, 3):
            text = self.quick(table_text, table)
            self.assert_same(text, f"{table[0] or '-'} {table[1]}")
            self.assert_same(self.quick(read_table, text), table)

    def test_tables_that_are_not_least(self):
        self.assert_same(table_text(("", "1010")), "- 1010")
        self.assert_same(read_table("- 1010"), ("", "1010"))
        self.assert_same(table_text(("11", "1")), "11 1")
        self.assert_same(read_table("11 1"), ("11", "1"))
        self.assert_same(read_table("0000 0000"), ("0000", "0000"))
        self.assert_same(table_text(longer(("0", "01"), 2, 2)), "001 0101"[:3] + " " + longer(("0", "01"), 2, 2)[1])

    def test_known(self):
        self.assert_same(table_text(EMPTY), "- 0")
        self.assert_same(table_text(ALL), "- 1")
        self.assert_same(table_text(("1010", "1")), "1010 1")

    def test_long(self):
        for head, turn in ((5000, 5000), (0, 5000), (5000, 1)):
            table = ("10" * (head // 2), "1" * turn)
            self.assert_same(self.quick(read_table, self.quick(table_text, table)), table)
        self.bad(read_table, "0" * 5001 + " 1", 0)
        self.bad(read_table, "0" * 5000 + " " + "1" * 5001, 1)
        self.bad(read_table, "- " + "1" * 5001, 1)
        self.bad(read_table, "0" * 20000, 0)

    def test_bad_words(self):
        for text, place in (("", 0), (" ", 0), ("-", 1), ("- ", 1), ("- -", 1), ("0", 1), ("01 ", 1), ("0 2", 1),
                            ("2 0", 0),
                            ("0 1 ", 2), ("0 1 1", 2), (" 0 1", 0), ("0  1", 1), ("-- 1", 0), ("-0 1", 0), ("0 -1", 1),
                            ("table - 1", 0), ("- 1 -", 2), ("0 1\n", 1), ("\t0 1", 0), ("0\t1", 0), ("01 10 01 10", 2),
                            ("- 0 0 0 0 0", 2), ("0" * 20, 1)):
            self.bad(read_table, text, place)

    def test_values_of_all_kinds(self):
        for value in VALUES:
            if type(value) is not str:
                for read in (read_table, read_maker, read_line):
                    self.bad(read, value, None)
        for value in (b"- 1", ["- 1"], ("-", "1"), ("- 1",), 1, {"- 1": 1}):
            for read in (read_table, read_maker, read_line):
                self.bad(read, value, None)

    def test_strings_of_all_kinds(self):
        for value in VALUES:
            if type(value) is str:
                place = 1 if value and not set(value) - {"0", "1"} and len(value) <= 5000 else 0
                self.bad(read_table, value, place)
                self.bad(read_maker, value, 0)
                self.bad(read_line, value, 0)

    def test_by_name(self):
        self.by_name(table_text, "- 1010", table=("", "1010"))
        self.by_name(read_table, ("", "1010"), value="- 1010")


class MakerTexts(TextCase):
    def test_examples(self):
        self.assert_same(maker_text(A), "coins 2 2 5 0")
        self.bad(read_maker, "coins 7 1", 1)
        self.bad(read_maker, "table - 1010", None)

    def test_text_and_back(self):
        for maker in ALL_MAKERS:
            text = self.quick(maker_text, maker)
            self.assert_same(self.quick(read_maker, text), maker)
            self.assert_same(self.quick(read_line, text), maker)
            self.assert_same(line_text(maker), text)
            self.assertNotIn("  ", text)

    def test_known(self):
        for maker, text in (
                (TABLE, "table - 01"), (("table", ("0001", "0")), "table 0001 0"),
                (("watches", ((5, 2), (0, 60))), "watches 2 5 2 0 60"),
                (("coins", ((6,), ((4, 1), (9, 20)))), "coins 1 6 2 4 1 9 20"),
                (("coins", ((), ((2, 2),))), "coins 0 1 2 2"),
                (("web", (3, ((0, 1), (2, 2)), (0, 2))), "web 3 2 0 1 2 2 2 0 2"), (("web", (1, (), ())), "web 1 0 0"),
                (("game", (2, 3, 8)), "game 3 2 3 8"),
                (("book", (2, ((0, 0, (1, 1)), (1, 2, ()), (1, 3, (1,)))), 1), "book 2 3 0 0 2 1 1 1 2 0 1 3 1 1 1"),
                (("program", P, "no"), "program 4 take 2 0 1 take 1 2 3 end no end yes no"),
                (("program", Q, "never"), "program 3 rest 3 1 2 0 end yes add 3 2 never"),
                (("row", (9, (1, 0), (4, 7)), 8), "row 9 2 1 0 4 7 8"), (("row", FIB, 0), "row 2 2 1 1 0 1 0"),
                (("saying", ("told", 0, 3), (TABLE,)), "saying told 0 3 1 table - 01"),
                (("saying", ("next", 2, ("not", S)), (TABLE, A)),
                 "saying next 2 not told 0 0 2 table - 01 coins 2 2 5 0")):
            self.assert_same(maker_text(maker), text)
            self.assert_same(read_maker(text), maker)

    def test_sayings(self):
        for saying in one_in_another() + [saying for saying, _ in cases(361, 80, 6)]:
            maker = ("saying", saying, (TABLE, A, COINS)[:highest(saying) + 1])
            text = maker_text(maker)
            self.assert_same(read_maker(text), maker)
            line = ("of", saying, ("x", "yy", "x")[:highest(saying) + 1])
            self.assert_same(read_line(line_text(line)), line)

    def test_at_the_bounds(self):
        steps = tuple(itertools.product(range(12), repeat=2))
        for maker in (("web", (12, steps, tuple(range(12)))), ("watches", ((200, 60),) * 8),
                      ("table", ("1" * 4999 + "0", "0" * 4999 + "1")), ("game", (1, 2, 3, 4, 5, 6, 7, 8)),
                      ("coins", ((1, 2, 3, 4, 5, 6), ())), ("coins", ((), tuple((coin, 20) for coin in range(25, 31)))),
                      ("row", (8, (7, 7, 7, 7), (7, 7, 7, 7)), 7),
                      ("book", (3, tuple((2, k, (2, 2)) for k in range(7)) + tuple()), 2),
                      ("program", (("rest", 6, (5,) * 6),) * 5 + (("end", "no"),), "never")):
            self.assertIsNone(maker_error(maker))
            self.assert_same(self.quick(read_maker, self.quick(maker_text, maker)), maker)

    def test_each_kind(self):
        self.assertEqual({text.split(" ")[0] for text in TEXTS}, set(KINDS))
        for text in TEXTS:
            maker = read_maker(text)
            self.assertIsNone(maker_error(maker))
            self.assert_same(maker_text(maker), text)

    def test_by_name(self):
        self.by_name(maker_text, "coins 2 2 5 0", maker=A)
        self.by_name(read_maker, A, value="coins 2 2 5 0")


class LineTexts(TextCase):
    def test_text_and_back(self):
        for line in LINES:
            self.assert_same(self.quick(read_line, self.quick(line_text, line)), line)

    def test_known(self):
        self.assert_same(line_text(LINES[0]), "of told 0 0 1 x")
        self.assert_same(line_text(LINES[3]), "of since told 2 20 next 20 told 0 0 3 of told x")
        self.assert_same(read_line("of not told 0 0 1 x"), ("of", ("not", S), ("x",)))
        self.assert_same(read_line("of told 1 2 2 yes no"), ("of", ("told", 1, 2), ("yes", "no")))

    def test_any_names(self):
        for name in ("a", "z", "abcdefgh", "of", "told", "never"):
            self.assert_same(read_line(f"of told 0 0 1 {name}"), ("of", S, (name,)))
        for name in NO_WORDS + ["1", "0"]:
            self.bad(read_line, f"of told 0 0 1 {name}", 5)
            self.bad(read_line, f"of told 0 0 2 x {name}", 6)

    def test_of_is_no_maker(self):
        self.bad(read_maker, "of told 0 0 1 x", 0)
        self.bad(read_maker, "saying told 0 0 1 of told 0 0 1 x", 5)
        self.bad(read_line, "saying told 0 0 1 of told 0 0 1 x", 5)

    def test_form_alone(self):
        for text in ("of told 1 0 1 x", "of told 2 0 2 x y", "of told 3 0 3 x y z", "of told 0 21 1 x",
                     "of next 21 told 0 0 1 x",
                     "of not not not not not not told 0 0 1 x", "of told 999999 999999 1 x"):
            self.bad(read_line, text, None)

    def test_by_name(self):
        self.by_name(line_text, "of told 0 0 1 x", line=LINES[0])
        self.by_name(read_line, LINES[0], value="of told 0 0 1 x")


class NamesLikeWords(TextCase):
    def test_alone(self):
        for word in TEXT_WORDS:
            line, text = ("of", S, (word,)), f"of told 0 0 1 {word}"
            self.assert_same(self.quick(line_text, line), text)
            self.assert_same(self.quick(read_line, text), line)
            self.by_name(read_line, line, value=text)
            self.bad(read_maker, text, 0)

    def test_among_others(self):
        self.assert_same(read_line("of told 1 1 3 yyyyxyxy dib rest"),
                         ("of", ("told", 1, 1), ("yyyyxyxy", "dib", "rest")))
        for one, other in itertools.product(TEXT_WORDS, repeat=2):
            for names in ((one, other), (one, "x", other), ("x", one, other), (one, other, one)):
                text = f"of till told 0 0 not told 1 3 {len(names)} {' '.join(names)}"
                line = ("of", ("till", S, ("not", ("told", 1, 3))), names)
                self.assert_same(read_line(text), line)
                self.assert_same(line_text(line), text)

    def test_behind_all_sayings(self):
        picker = random.Random(363)
        for saying in one_in_another() + [saying for saying, _ in cases(364, 80, 6)]:
            for many in range(highest(saying) + 1, 4):
                line = ("of", saying, tuple(picker.choice(TEXT_WORDS) for _ in range(many)))
                self.assert_same(read_line(line_text(line)), line)

    def test_nothing_stands_behind_them(self):
        for word in TEXT_WORDS:
            for more in ("2", "1 0", "2 0 1", "told 0 0", "yes", "-", "", word):
                self.bad(read_line, f"of told 0 0 1 {word} {more}", 6)
            self.bad(read_line, f"of told 0 0 2 {word}", 6)
            self.bad(read_line, f"of told 0 0 3 x {word}", 7)
            self.bad(read_line, f"of told 0 0 2 {word} 2", 6)
            # By form it is a name; what is wrong stands elsewhere.
            self.bad(read_line, f"of told 1 0 1 {word}", None)

    def test_other_names_are_no_words(self):
        for word in ("abc", "name", "line", "maker", "step", "number", "head", "turn"):
            self.bad(read_line, f"{word} told 0 0 1 x", 0)
            self.bad(read_line, f"of {word} 0 0 1 x", 1)
            self.bad(read_line, f"program 1 {word} 2 0 0 yes", 2)
            self.bad(read_line, f"program 1 end {word}", 3)
            self.bad(read_line, f"program 1 end yes {word}", 4)
        self.assert_same(read_line("program 2 rest 2 0 1 end yes yes"),
                         ("program", (("rest", 2, (0, 1)), ("end", "yes")), "yes"))

    def test_each_word_at_each_place(self):
        found = 0
        for text in LINE_TEXTS:
            words = text.split(" ")
            for place, word in itertools.product(range(len(words)), TEXT_WORDS):
                other = " ".join(words[:place] + [word] + words[place + 1:])
                try:
                    line = read_line(other)
                except BadText as error:
                    self.assertTrue(error.place is None or place <= error.place <= len(words))
                else:
                    self.assertEqual(line_text(line), other)
                    found += 1
        self.assertGreater(found, 6 * len(TEXT_WORDS))


class BadWords(TextCase):
    def test_cut_off(self):
        for text in LINE_TEXTS:
            reads = (read_line,) if text.startswith("of") else (read_line, read_maker)
            for cut, many in splits(text):
                for read in reads:
                    self.bad(read, cut, many)
                    self.bad(read, cut + " ", many)

    def test_one_word_more(self):
        for text in LINE_TEXTS:
            reads = (read_line,) if text.startswith("of") else (read_line, read_maker)
            for more in ("", "0", "x", "table", "yes", "- 1"):
                for read in reads:
                    self.bad(read, text + " " + more, len(text.split(" ")))

    def test_no_form_at_each_place(self):
        for text in LINE_TEXTS:
            words = text.split(" ")
            for place in range(len(words)):
                for wrong in NO_WORDS:
                    if wrong == "01" and words[0] == "table" or wrong == "00" and words[0] == "table":
                        continue
                    if "table" in words and wrong in ("01", "00", "-", "1000000"):
                        continue
                    self.bad(read_line, " ".join(words[:place] + [wrong] + words[place + 1:]), place)

    def test_words_of_other_places(self):
        for text in LINE_TEXTS:
            words = text.split(" ")
            for place, word in enumerate(words):
                if word.isdigit() and "table" not in words and not (words[0] == "of" and place == len(words) - 1):
                    for wrong in ("-", "x", "told", "yes", "add", "table", "of"):
                        self.bad(read_line, " ".join(words[:place] + [wrong] + words[place + 1:]), place)
                elif word in ("told", "and", "not", "take", "rest", "end", "add"):
                    for wrong in ("0", "12", "-", "never", "coins", "saying", "x"):
                        self.bad(read_line, " ".join(words[:place] + [wrong] + words[place + 1:]), place)

    def test_first_words(self):
        for word in ("", "-", "0", "x", "tables", "Table", "TABLE", "told", "add", "yes", "lines", "makers"):
            for text in (word, word + " 1", word + " - 01", word + " 2 2 5 0"):
                self.bad(read_maker, text, 0)
                self.bad(read_line, text, 0)
        for kind in KINDS:
            self.bad(read_maker, kind, 1)
            self.bad(read_line, kind, 1)
            self.bad(read_maker, " " + kind, 0)
            self.bad(read_maker, kind + "\n", 0)
        self.bad(read_line, "of", 1)

    def test_blanks(self):
        for text in LINE_TEXTS:
            many = len(text.split(" "))
            self.bad(read_line, " " + text, 0)
            self.bad(read_line, text + " ", many)
            self.bad(read_line, text + "  ", many)
            for place in (1, many // 2, many - 1):
                words = text.split(" ")
                self.bad(read_line, " ".join(words[:place] + [""] + words[place:]), place)
                joined = [words[place - 1] + "\t" + words[place]]
                self.bad(read_line, " ".join(words[:place - 1] + joined + words[place + 1:]), place - 1)

    def test_the_words_of_program_steps(self):
        self.bad(read_maker, "program 1 end never never", 3)
        self.bad(read_maker, "program 1 end maybe", 3)
        self.bad(read_maker, "program 1 end yes maybe", 4)
        self.bad(read_maker, "program 1 stop", 2)
        self.assert_same(read_maker("program 1 end no never"), ("program", (("end", "no"),), "never"))


class Counts(TextCase):
    # Where a text has a number that tells how many, its bounds, and the text up to it.
    BOUNDS = [("watches", 1, 8), ("coins", 0, 6), ("coins 1 3", 0, 6), ("coins 0", 0, 6), ("web", 1, 12),
              ("web 3", 0, 144),
              ("web 3 1 0 0", 0, 12), ("web 3 0", 0, 12), ("game", 1, 8), ("book", 1, 3), ("book 2", 0, 10),
              ("book 1 1 0 0", 0, 2),
              ("program", 1, 6), ("program 1 rest", 2, 6), ("row 2", 1, 4), ("saying told 0 0", 1, 3)]

    def test_bounds(self):
        for text, low, high in self.BOUNDS + [("of told 0 0", 1, 3)]:
            many = len(text.split(" "))
            for number in list(range(15)) + [142, 143, 144, 145, 146, 999, 999999]:
                place = many + 1 if low <= number <= high else many
                if self.goes_on(text, number):
                    self.bad(read_line, f"{text} {number}", place)
                else:
                    self.assertLessEqual(low, number)
            for wrong in ("-1", "01", "x", "-", "1000000", ""):
                self.bad(read_line, f"{text} {wrong}", many)

    def goes_on(self, text, number):
        """Whether more words are wanted behind this text and number, or it can't stand."""
        return not (text in ("coins 1 3", "coins 0", "web 3 1 0 0", "web 3 0") and number == 0)

    def test_as_many_as_told(self):
        for many in range(1, 9):
            watches = " ".join(f"{k} {k + 1}" for k in range(many))
            text = f"watches {many} {watches}"
            self.assert_same(read_maker(text), ("watches", tuple((k, k + 1) for k in range(many))))
            self.bad(read_maker, text + " 1", 2 + 2 * many)
            self.bad(read_maker, f"watches {many} {watches}"[:-2], 1 + 2 * many)

    def test_numbers(self):
        for number, place in (("0", None), ("1", None), ("999999", None), ("1000000", 2), ("999998", None),
                              ("0999999", 2),
                              ("00", 2), ("-0", 2), ("-5", 2), ("+5", 2), ("5.", 2), ("10" * 10, 2), ("1" * 5000, 2),
                              ("\u0661", 2), ("\u00b2", 2)):
            if number in ("1",):
                self.assert_same(read_maker(f"watches 1 {number} 2"), ("watches", ((1, 2),)))
            elif number == "0":
                self.assert_same(read_maker(f"watches 1 {number} 2"), ("watches", ((0, 2),)))
            else:
                self.bad(read_maker, f"watches 1 {number} 2", place)

    def test_form_alone(self):
        for text in ("table - 1010", "table 1 1", "table 0 0", "watches 1 201 2", "watches 1 0 0", "watches 1 0 61",
                     "coins 0 0",
                     "coins 2 5 2 0", "coins 1 31 0", "coins 1 0 0", "coins 1 3 1 3 1", "coins 1 3 1 4 0",
                     "coins 1 3 1 4 21",
                     "coins 6 1 2 3 4 5 6 1 7 1", "web 1 1 0 1 0", "web 2 0 1 2", "web 2 2 0 1 0 0 0", "web 2 0 2 1 0",
                     "web 12 1 999999 0 0", "game 1 0", "game 1 9", "game 2 3 2", "game 2 2 2", "book 1 0 1",
                     "book 1 1 0 7 0 0", "book 1 1 1 0 0 0", "book 2 1 0 0 2 1 0 0", "book 1 2 0 1 0 0 0 0 0",
                     "book 3 0 999999",
                     "program 1 add 5 0 yes", "program 1 add 1 1 yes", "program 1 take 0 0 0 no",
                     "program 2 rest 4 0 0 0 0 rest "
                     "6 0 0 0 0 0 0 yes", "program 1 rest 2 0 1 never", "row 1 1 0 0 0", "row 10 1 0 0 0",
                     "row 9 4 0 0 0 0 0 0 0 0 0",
                     "row 2 1 2 0 0", "row 2 1 0 2 0", "row 2 1 0 0 2", "saying told 1 0 1 table - 1",
                     "saying told 0 21 1 table - 1",
                     "saying not not not not not not told 0 0 1 table - 1", "saying told 0 0 1 table - 11",
                     "saying told 0 0 1 saying told 0 0 1 saying told 0 0 1 table - 1",
                     "saying told 999999 0 3 table - 1 table - 1 "
                     "table - 1"):
            self.bad(read_maker, text, None)
            self.bad(read_line, text, None)

    def test_makers_that_are_none(self):
        # What maker_error finds wrong and a text can tell is told so, with the same form.
        read = 0
        for kind in KINDS:
            for maker in WRONG[kind]:
                try:
                    text = maker_text(maker)
                except (TypeError, IndexError, ValueError, AttributeError, KeyError):
                    continue
                try:
                    # Lists and truths have the texts of tuples and integers.
                    self.assertIsNone(maker_error(read_maker(text)))
                except BadText:
                    read += 1
        self.assertGreater(read, 20)

    def test_ten_makers(self):
        two, three = "saying told 0 0 2 table - 1 table - 0", "saying told 0 0 3 table - 1 table - 0 table - 01"
        nine = f"saying told 0 0 2 {three} {three}"
        self.assertIsNone(maker_error(read_maker(nine)))
        self.bad(read_maker, f"saying told 0 0 3 {three} {three} table - 1", None)
        self.bad(read_maker, f"saying told 0 0 3 {two} {two} {two}", None)
        self.assert_same(read_maker(maker_text(DEEP)), DEEP)


class LongTexts(TextCase):
    def test_deep_sayings(self):
        for word in ("not", "from", "some", "ahead", "next 1"):
            for many in (5, 6, 7, 11, 12, 13, 50, 900, 2500):
                words = len(word.split(" ")) * many
                ahead = (word + " ") * many
                text = "saying " + ahead + "told 0 0 1 table - 1"
                if many <= 5:
                    self.assertIsNone(saying_error(read_maker(text)[1]))
                else:
                    self.bad(read_maker, text, None)
                    self.bad(read_line, "of " + ahead + "told 0 0 1 x", None)
                self.bad(read_maker, "saying " + ahead + "told 0 0 4", 4 + words)
                self.bad(read_maker, "saying " + ahead + "told 0 0", 4 + words)
                self.bad(read_maker, "saying " + ahead, 1 + words)
                self.bad(read_maker, ("saying " + ahead)[:-1], 1 + words)

    def test_wide_sayings(self):
        for word in ("and", "or", "till", "since"):
            for many in (1, 2, 9, 10, 900, 2400):
                left = "saying " + (word + " ") * many + "told 0 0 " * (many + 1) + "1 table - 1"
                right = "saying " + (word + " told 0 0 ") * many + "told 0 0 1 table - 1"
                for text in (left, right):
                    if many <= 2:
                        self.assertEqual(maker_text(read_maker(text)), text)
                    else:
                        self.bad(read_maker, text, None)
                    self.bad(read_maker, text + " 1", len(text.split(" ")))
                    self.bad(read_maker, text.replace(" 1 table", " 0 table"), len(text.split(" ")) - 4)

    def test_deep_makers(self):
        for many in (3, 4, 12, 13, 14, 100, 1500):
            text = "saying told 0 0 1 " * many + "table - 1"
            self.bad(read_maker, text, None)
            self.bad(read_line, text, None)
            self.bad(read_maker, text[:-2], 5 * many + 2)
            self.bad(read_maker, text + " x", 5 * many + 3)
        self.assertEqual(maker_error(("saying", S, (("saying", S, (TABLE,)),))), None)
        self.assert_same(made(read_maker("saying told 0 0 1 " * 2 + "table - 1")), ALL)

    def test_thousands_of_words(self):
        for words, place in ((["and"] * 9000, 0), (["saying"] + ["and"] * 8000, 8001),
                             (["saying"] + ["not"] * 8000 + ["x"], 8001),
                             (["table", "-", "1"] * 3000, 3), (["web", "12", "144"] + ["0"] * 9000, 292),
                             (["1"] * 9000, 0), ([""] * 9000, 0), (["game"] + ["8"] * 9000, 10)):
            self.bad(read_maker, " ".join(words), place)

    def test_very_wide_makers(self):
        # Each of three makers is a saying of three makers, and so on.
        text = "table - 1"
        for _ in range(5):
            text = f"saying told 0 0 3 {text} {text} {text}"
        self.bad(read_maker, text, None)
        self.bad(read_maker, text + " 1", len(text.split(" ")))
        self.bad(read_maker, text[:-2], len(text.split(" ")) - 1)

    def test_random_words(self):
        picker = random.Random(362)
        words = ["table", "-", "01", "coins", "0", "1", "2", "3", "saying", "not", "and", "told", "of", "x", "yes",
                 "program",
                 "end", "rest", "game", "web", "row", "book", "watches"]
        for _ in range(3000):
            chosen = [picker.choice(words) for _ in range(picker.randint(1, 9))]
            text = " ".join(chosen)
            try:
                line = read_line(text)
            except BadText as error:
                if error.place is not None:
                    self.assertTrue(0 <= error.place <= len(chosen))
                    # The words ahead of it can stand: no earlier place is told of them.
                    if 0 < error.place < len(chosen):
                        self.check_cut(" ".join(chosen[:error.place]), error.place)
            else:
                self.assertEqual(line_text(line), text)

    def check_cut(self, text, many):
        """The words can stand: either more are wanted, or they are a whole text by form."""
        try:
            self.assertEqual(line_text(read_line(text)), text)
        except BadText as error:
            self.assertIn(error.place, (None, many))


class Fits(TextCase):
    def test_every_maker_is_read(self):
        for maker in PLAIN:
            self.assertEqual(made(read_maker(maker_text(maker))), made(maker))


if __name__ == "__main__":
    unittest.main()
