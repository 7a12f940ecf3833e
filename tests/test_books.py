import itertools
import random
import unittest

from booksforms import (
    B, C, KNOWN_BOOKS, TOO_GREAT, is_too_great, plain_made, plain_signs, random_book, random_books,
    size_of)
from leastmakers.books import book_error, derived, fewest_rules, idle, least_made, without
from leastmakers.errors import RoundError, TooGreat
from leastmakers.tables import EMPTY
from reckoning import VALUES, Case, from_numbers, row, sign, told

# What is no number of an item of a book, whatever its bounds are.
NO_NUMBERS = (None, True, False, -1, 7, 10 ** 39, -10 ** 39, "", "0", "1", (), (0,), [], [0], {}, {0: 0})


def all_rules(many, most):
    names = [()] + [(a,) for a in range(many)] + [(a, b) for a in range(many) for b in range(a, many)]
    return tuple(sorted(itertools.product(range(many), range(most + 1), names)))


class BookError(Case):
    def check(self, value, word):
        self.check_value(book_error, value, word)

    def test_books(self):
        for book in KNOWN_BOOKS + random_books(41, 200) + [TOO_GREAT]:
            self.check(book, None)
        for many in (1, 2, 3):
            rules = all_rules(many, 6)
            for rule in rules:
                self.check((many, (rule,)), None)
            for size in range(11):
                self.check((many, rules[:size]), None)
                self.check((many, rules[-size:] if size else ()), None)

    def test_form(self):
        for value in VALUES + ((1,), (1, (), ()), [1, ()], {1: ()}, "10", (1,) * 3):
            if not isinstance(value, tuple) or len(value) != 2:
                self.check(value, "form")

    def test_many(self):
        for wrong in NO_NUMBERS + (0, 4, 5, "3", (3,)):
            for rules in ((), ((0, 0, ()),), None, [(0, 0, ())], ((0, 0),), ((0, 0, ()),) * 11):
                self.check((wrong, rules), "many")

    def test_rules(self):
        for many in (1, 2, 3):
            for wrong in (None, True, 0, "", "000", [], [(0, 0, ())], {}, {(0, 0, ()): 1}):
                self.check((many, wrong), "rules")
            self.check((many, all_rules(many, 6)[:11]), "rules")
            self.check((many, ((0, 0, ()),) * 11), "rules")
            self.check((many, (None,) * 11), "rules")
            self.check((many, (None,) * 10), (0, "rule"))

    def wrong_rules(self, many):
        forms = [None, True, 0, "", "000", (), (0,), (0, 0), (0, 0, (), ()), [0, 0, ()], {0: 0}, ((0, 0, ()),)]
        forms += [(name, 0, ()) for name in NO_NUMBERS + (many,)]
        forms += [(0, letters, ()) for letters in NO_NUMBERS + (8,)]
        forms += [(0, 0, names) for names in (None, True, 0, "", "0", [], [0], {}, {0: 0}, (0, 0, 0))]
        forms += [(0, 0, (name,)) for name in NO_NUMBERS + (many,)]
        forms += [(0, 0, (0, name)) for name in NO_NUMBERS + (many,)]
        forms += [(0, 0, (name, 0)) for name in NO_NUMBERS + (many,)]
        forms += [(0, 0, (b, a)) for a in range(many) for b in range(a + 1, many)]
        return forms

    def test_rule(self):
        for many in (1, 2, 3):
            for wrong in self.wrong_rules(many):
                self.check((many, (wrong,)), (0, "rule"))

    def test_rule_at_each_place(self):
        for many in (1, 2, 3):
            rules = all_rules(many, 6)[:10]
            for place in range(10):
                for wrong in self.wrong_rules(many)[::7]:
                    self.check((many, rules[:place] + (wrong,) + rules[place + 1:]), (place, "rule"))
                    self.check((many, rules[:place] + (wrong,) * (10 - place)), (place, "rule"))

    def test_order(self):
        for many in (1, 2, 3):
            rules = all_rules(many, 3)[:9]
            for place in range(1, 9):
                twice = rules[:place] + rules[place - 1:]
                self.check((many, twice), (place, "order"))
                for later in range(place):
                    self.check((many, rules[:place] + rules[later:later + 1]), (place, "order"))
        self.check((2, ((1, 0, ()), (0, 6, (1, 1)))), (1, "order"))
        self.check((2, ((0, 1, ()), (0, 0, (1, 1)))), (1, "order"))
        self.check((2, ((0, 0, (0, 1)), (0, 0, (0, 0)))), (1, "order"))
        self.check((2, ((0, 0, (0, 0)), (0, 0, (0,)))), (1, "order"))
        self.check((2, ((0, 0, ()), (0, 0, ()))), (1, "order"))
        self.check((2, ((0, 0, ()), (0, 0, (0,)), (0, 0, (0, 0)), (0, 0, (0, 1)), (0, 0, (1,)),
                        (0, 1, ()), (1, 0, ()))), None)

    def test_the_first_one_is_told(self):
        self.check((0, None), "many")
        self.check((1, ((0, 1, ()), (0, 0, ()), None)), (1, "order"))
        self.check((1, ((0, 1, ()), None, (0, 0, ()))), (1, "rule"))
        self.check((1, ((0, 1, ()), (0, 0, (1,)))), (1, "rule"))
        self.check((1, (None, (0, 1, ()), (0, 0, ()))), (0, "rule"))
        self.check((1, ((0, 1, ()), (0, 2, ()), (0, 2, ()), (0, 7, ()))), (2, "order"))

    def test_by_name(self):
        self.by_name(book_error, None, value=B)
        self.by_name(book_error, (0, "rule"), value=(1, ((1, 0, ()),)))


class Derived(Case):
    def check(self, book):
        found = self.quick(derived, book)
        self.assertIs(type(found), tuple)
        self.assertEqual(len(found), book[0])
        head, turn = size_of(book)
        for table in found:
            self.assertLessEqual(len(table[0]), head)
            self.assertLessEqual(len(table[1]), turn)
        return found

    def test_examples(self):
        self.assertEqual(derived(B), (("", "0100"),))
        self.assertEqual(derived(C), (("00", "001"), ("", "001")))
        with self.assertRaises(TooGreat):
            derived(TOO_GREAT)

    def test_against_the_trees(self):
        for book in KNOWN_BOOKS + random_books(42, 450):
            found = self.check(book)
            for table, made in zip(found, plain_made(book, 220)):
                self.assertEqual(told(table, 220), made, book)

    def test_all_small_books_of_one_name(self):
        rules = all_rules(1, 2)
        for size in range(4):
            for chosen in itertools.combinations(rules, size):
                book = (1, chosen)
                head, turn = size_of(book)
                many = head + 2 * turn
                wanted = plain_made(book, many)[0]
                found = self.check(book)[0]
                self.assertEqual(told(found, many), wanted)

    def test_far_beyond_the_head(self):
        picker = random.Random(43)
        books = [book for book in KNOWN_BOOKS if sum(size_of(book)) < 500]
        books += [random_book(picker, k % 3 + 1, 2, False, picker.randint(2, 8)) for k in range(30)]
        books += [random_book(picker, k % 2 + 1, 1 + k % 2, True, picker.randint(2, 6)) for k in range(30)]
        for book in books:
            head, turn = size_of(book)
            many = head + 2 * turn
            for table, made in zip(self.check(book), plain_made(book, many)):
                self.assertEqual(told(table, many), made)
                self.assertEqual(table, self.shortest(made, head, turn))

    def test_all_signs_of_great_books(self):
        books = [book for book in KNOWN_BOOKS if 2000 < sum(size_of(book)) < 5000]
        self.assertGreater(len(books), 3)
        for book in books:
            head, turn = size_of(book)
            many = head + 2 * turn
            for table, signs in zip(self.check(book), plain_signs(book, many)):
                self.assertEqual(row(table, many), signs)

    def shortest(self, made, head, turn):
        """The table of the first turn that fits so many signs behind the head."""
        signs = "".join("1" if n in made else "0" for n in range(head + 2 * turn))
        for size in range(1, turn + 1):
            if signs[head:-size] == signs[head + size:]:
                return from_numbers(made, head, size)
        raise AssertionError("no turn of so many signs")

    def test_names_that_make_nothing(self):
        for many in (1, 2, 3):
            self.assertEqual(derived((many, ())), (EMPTY,) * many)
        self.assertEqual(derived((1, ((0, 3, (0,)),))), (EMPTY,))
        self.assertEqual(derived((2, ((0, 3, (1,)), (1, 0, (0, 1))))), (EMPTY, EMPTY))
        self.assertEqual(derived((2, ((0, 3, (1,)), (1, 0, (0, 1)), (1, 2, ())))),
                         (("0", "00001"), ("", "00100")))

    def test_rules_of_no_letters(self):
        self.assertEqual(derived((1, ((0, 0, ()), (0, 0, (0,)), (0, 0, (0, 0))))), (("1", "0"),))
        self.assertEqual(derived((2, ((0, 0, (1,)), (1, 0, (0,)), (1, 2, ())))), (("001", "0"),) * 2)
        self.assertEqual(derived((3, ((0, 0, (1, 2)), (1, 0, (2,)), (2, 0, ()), (2, 1, ())))),
                         (("111", "0"), ("11", "0"), ("11", "0")))

    def test_long_turns(self):
        self.assertEqual(derived((1, ((0, 6, ()), (0, 6, (0, 0))))), (("", "000000100000"),))
        found = derived((3, ((0, 0, ()), (0, 6, (1,)), (1, 6, (2,)), (2, 6, (0,)))))
        self.assertEqual(found[0], ("", "1" + "0" * 17))
        found = derived((3, ((0, 0, (1,)), (0, 0, (2,)), (1, 0, ()), (1, 5, (1,)), (2, 1, ()), (2, 6, (2,)))))
        self.assertEqual(len(found[0][1]), 30)

    def test_too_great(self):
        for book in self.bound_books():
            if is_too_great(book):
                for kind in (TooGreat, RoundError, ValueError):
                    with self.assertRaises(kind):
                        derived(book)
                with self.assertRaises(TooGreat):
                    derived(book=book)
            else:
                self.check(book)

    def bound_books(self):
        """Books of each many and each greatest letters, with and without rules of two names."""
        for many in (1, 2, 3):
            for most in range(7):
                for names in ((), (0,), (many - 1,), (0, 0), (0, many - 1), (many - 1, many - 1)):
                    yield many, ((0, most, names),)
                    yield many, tuple(sorted({(0, 0, ()), (many - 1, most, ()), (0, 0, names)}))
                    yield many, tuple(sorted({(0, most, ()), (many - 1, 1, ()), (many - 1, 1, names)}))

    def test_at_the_bounds(self):
        picker = random.Random(44)
        for k in range(12):
            rules = set()
            while len(rules) < 10:
                size = picker.choice((0, 1, 2, 2, 2))
                names = tuple(sorted(picker.randrange(3) for _ in range(size)))
                rules.add((picker.randrange(3), picker.randint(1, 2), names))
            self.check((3, tuple(sorted(rules))))
            self.check(random_book(picker, 2, 6, True, 10))
            self.check(random_book(picker, 3, 6, False, 10))

    def test_by_name(self):
        self.by_name(derived, (("", "0100"),), book=B)


def plain_idle(book):
    """The places of rules that stand in no tree of name 0, by the names of such trees."""
    many, rules = book
    growing = set()
    for _ in range(many):
        growing |= {name for name, _, names in rules if growing.issuperset(names)}
    fitting = {place for place, rule in enumerate(rules) if growing.issuperset(rule[2])}
    come_to = {0}
    for _ in range(many):
        come_to |= {part for place in fitting if rules[place][0] in come_to for part in rules[place][2]}
    return tuple(place for place in range(len(rules))
                 if place not in fitting or rules[place][0] not in come_to)


class LeastMade(Case):
    def test_example(self):
        self.assertEqual(least_made(B), (1,))

    def test_against_the_trees(self):
        for book in KNOWN_BOOKS + random_books(45, 300):
            # A least tree has no name within itself, so it has at most seven rules.
            wanted = tuple(min(made, default=None) for made in plain_made(book, 6 * 7 + 1))
            self.assert_same(self.quick(least_made, book), wanted)

    def test_never_too_great(self):
        picker = random.Random(46)
        self.assert_same(least_made(TOO_GREAT), (3, 0, 0))
        for _ in range(60):
            book = random_book(picker, 3, 6, True, 10)
            wanted = tuple(min(made, default=None) for made in plain_made(book, 43))
            self.assert_same(self.quick(least_made, book), wanted)
        self.assert_same(least_made((3, ((0, 6, (1, 1)), (1, 6, (2, 2)), (2, 6, ())))), (42, 18, 6))
        self.assert_same(least_made((3, ((0, 6, ()), (1, 6, (0, 0)), (2, 6, (1, 1))))), (6, 18, 42))

    def test_by_name(self):
        self.by_name(least_made, (1,), book=B)


class Idle(Case):
    def test_example(self):
        self.assertEqual(idle((2, ((0, 1, ()), (0, 1, (1,)), (1, 1, (1,))))), (1, 2))

    def test_against_the_names(self):
        picker = random.Random(47)
        books = KNOWN_BOOKS + random_books(48, 300) + [TOO_GREAT]
        books += [random_book(picker, 3, 6, True, picker.randint(1, 10)) for _ in range(200)]
        for book in books:
            found = self.quick(idle, book)
            self.assert_same(found, plain_idle(book))
            left = without(book, found)
            self.assertIsNone(book_error(left))
            self.assert_same(idle(left), ())
            self.assertEqual(plain_made(left, 60)[0], plain_made(book, 60)[0])

    def test_known(self):
        self.assertEqual(idle(B), ())
        self.assertEqual(idle((1, ())), ())
        self.assertEqual(idle((1, ((0, 1, (0,)), (0, 2, (0, 0))))), (0, 1))
        self.assertEqual(idle((3, ((0, 0, (1, 2)), (1, 0, ()), (2, 0, (2,))))), (0, 1, 2))
        self.assertEqual(idle((3, ((0, 0, ()), (1, 0, ()), (2, 0, (0, 1))))), (1, 2))

    def test_by_name(self):
        self.by_name(idle, (1, 2), book=(2, ((0, 1, ()), (0, 1, (1,)), (1, 1, (1,)))))


class Without(Case):
    def test_all_places(self):
        for book in KNOWN_BOOKS + random_books(49, 60):
            places = range(len(book[1]))
            for size in (0, 1, 2, len(book[1])):
                for left_out in itertools.combinations(places, size):
                    wanted = (book[0], tuple(book[1][k] for k in places if k not in left_out))
                    self.assert_same(self.quick(without, book, left_out), wanted)

    def test_by_name(self):
        self.by_name(without, (1, ((0, 1, ()),)), book=B, places=(1,))
        self.assert_same(without(TOO_GREAT, (0,)), (3, ((1, 0, ()), (2, 0, ()))))


def plain_sizes(book, limit):
    """For each name a dict of the fewest rules for each number below limit, by better and better trees."""
    many, rules = book
    sizes = [{} for _ in range(many)]
    better = True
    while better:
        better = False
        for name, letters, names in rules:
            ways = {letters: 1}
            for part in names:
                after = {}
                for number, size in ways.items():
                    for more, other in sizes[part].items():
                        if number + more < limit:
                            after[number + more] = min(size + other, after.get(number + more, 10 ** 9))
                ways = after
            for number, size in ways.items():
                if number < limit and size < sizes[name].get(number, 10 ** 9):
                    sizes[name][number] = size
                    better = True
    return sizes


class FewestRules(Case):
    def test_example(self):
        self.assertEqual(fewest_rules(B, 0, 9), 5)

    def test_against_the_trees(self):
        for book in KNOWN_BOOKS + random_books(50, 90):
            sizes = plain_sizes(book, 36)
            for name in range(book[0]):
                for number in range(36):
                    self.assert_same(fewest_rules(book, name, number), sizes[name].get(number))

    def test_numbers_to_200(self):
        for book in (B, C, KNOWN_BOOKS[9], KNOWN_BOOKS[13], KNOWN_BOOKS[17], KNOWN_BOOKS[22]):
            sizes = plain_sizes(book, 201)
            for name in range(book[0]):
                for number in (0, 1, 99, 100, 150, 195, 196, 197, 198, 199, 200):
                    self.assert_same(self.quick(fewest_rules, book, name, number),
                                     sizes[name].get(number))

    def test_at_the_bounds(self):
        picker = random.Random(51)
        for _ in range(10):
            book = random_book(picker, 3, 2, True, 10)
            tables = derived(book)
            for name in range(3):
                for number in (199, 200):
                    found = self.quick(fewest_rules, book, name, number)
                    self.assertEqual(found is not None, sign(tables[name], number) == "1")

    def test_never_too_great(self):
        self.assert_same(fewest_rules(TOO_GREAT, 0, 3), 3)
        self.assert_same(fewest_rules(TOO_GREAT, 0, 4), None)
        picker = random.Random(52)
        for _ in range(30):
            book = random_book(picker, 3, 6, True, 10)
            sizes = plain_sizes(book, 30)
            for name in range(3):
                for number in range(0, 30, 3):
                    self.assert_same(fewest_rules(book, name, number), sizes[name].get(number))

    def test_known(self):
        self.assert_same(fewest_rules((1, ((0, 0, ()), (0, 0, (0, 0)), (0, 1, ()))), 0, 4), 7)
        self.assert_same(fewest_rules((1, ((0, 0, ()), (0, 1, (0,)))), 0, 200), 201)
        self.assert_same(fewest_rules((2, ((0, 0, (1,)), (1, 0, (0,)), (1, 5, ()))), 0, 5), 2)
        self.assert_same(fewest_rules((2, ((0, 0, (1,)), (1, 0, (0,)), (1, 5, ()))), 1, 5), 1)

    def test_by_name(self):
        self.by_name(fewest_rules, 5, book=B, name=0, number=9)
        self.by_name(fewest_rules, None, book=B, name=0, number=8)


if __name__ == "__main__":
    unittest.main()
