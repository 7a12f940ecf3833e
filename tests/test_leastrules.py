import itertools
import random
import unittest

from leastmakers.errors import RoundError, TooGreat
from leastmakers.leastrules import (
    fewest_factors, fork, is_fork, is_lack, lack, least_factors, least_sum, makes, memory, profile, refusals,
    refused_at, told_sum)
from leastmakers.rows import values
from leastmakers.tables import ALL, EMPTY
from reckoning import VALUES, Case, least_tables, longer, prime_turn, row, sign

PRIMES = (2, 3, 5, 7)
TAPS = (0, 0, 1, 0, 1, 1, 1)

# What is no number below a modulus, whatever this is.
NO_NUMBERS = (None, True, False, -1, 9, 10 ** 39, -10 ** 39, "", "0", "1", (), (0,), [], [0], {}, {0: 0})


def plain_refused(modulus, factors, stretch):
    for n in range(len(factors), len(stretch)):
        total = sum(factors[i] * stretch[n - 1 - i] for i in range(len(factors)))
        if total % modulus != stretch[n]:
            return n
    return None


def plain_makes(modulus, value, stretch):
    if type(value) is not tuple or len(value) > len(stretch):
        return False
    if not all(type(item) is int and 0 <= item < modulus for item in value):
        return False
    return plain_refused(modulus, value, stretch) is None


def tuples(modulus, many):
    return itertools.product(range(modulus), repeat=many)


def plain_fewest(modulus, stretch):
    """How many numbers make the stretch at least, by going through all tuples."""
    for many in range(len(stretch) + 1):
        if any(plain_refused(modulus, factors, stretch) is None for factors in tuples(modulus, many)):
            return many
    raise AssertionError("as many numbers as the stretch has make it")


def plain_least_sum(modulus, stretch):
    for many in range(len(stretch) + 1):
        if modulus ** many > 5000:
            return None
        for factors in tuples(modulus, many):
            if plain_refused(modulus, factors, stretch) is None:
                return factors
    raise AssertionError("as many numbers as the stretch has make it")


def plain_is_lack(prime, stretch, many, value):
    if type(value) is not tuple or len(value) != len(stretch) - many:
        return False
    if not all(type(item) is int and 0 <= item < prime for item in value):
        return False
    weights = dict(zip(range(many, len(stretch)), value))
    for i in range(1, many + 1):
        if sum(weight * stretch[n - i] for n, weight in weights.items()) % prime != 0:
            return False
    return sum(weight * stretch[n] for n, weight in weights.items()) % prime == 1


def by_chance(picker, modulus, many):
    return tuple(picker.randrange(modulus) for _ in range(many))


def by_rule(picker, modulus, many, order):
    """A stretch of the row of a rule of so many factors, perhaps more than four."""
    factors, stretch = by_chance(picker, modulus, order), list(by_chance(picker, modulus, order))
    while len(stretch) < many:
        total = sum(factor * stretch[-1 - i] for i, factor in enumerate(factors))
        stretch.append(total % modulus)
    return tuple(stretch[:many])


def otherwise(picker, modulus, stretch, place):
    """The stretch with another number at this place."""
    wrong = (stretch[place] + picker.randrange(1, modulus)) % modulus
    return stretch[:place] + (wrong,) + stretch[place + 1:]


def stretches(modulus, seed):
    """Stretches of many kinds, of no, one and up to 100 numbers."""
    picker = random.Random(seed)
    found = [(), (0,), (1,), (modulus - 1,), (0, 0), (0, 1), (0,) * 100, (1,) * 100, (0,) * 99 + (1,),
             (1,) + (0,) * 99, (0,) * 50 + (1,) + (0,) * 49, (1,) * 99 + (0,), (0,) * 30 + (1,)]
    for many in (2, 3, 5, 8, 13, 40, 99, 100):
        found.append(by_chance(picker, modulus, many))
        for order in (1, 2, 3, 4, 6, 11):
            stretch = by_rule(picker, modulus, many, order)
            found += [stretch, otherwise(picker, modulus, stretch, many - 1),
                      otherwise(picker, modulus, stretch, picker.randrange(many))]
    return found


def short_stretches(modulus, most):
    for many in range(most + 1):
        yield from tuples(modulus, many)


class Makes(Case):
    def test_examples(self):
        self.assertIs(makes(4, (2,), (1, 2, 0, 0)), True)
        self.assertIs(makes(2, (0, 1, 1), TAPS), True)
        self.assertIs(makes(2, (0, 1), TAPS), False)

    def test_against_plain_reckoning(self):
        picker = random.Random(201)
        for modulus in range(2, 10):
            for stretch in stretches(modulus, 202):
                for many in (0, 1, 2, 3, 5, 12, len(stretch) - 1, len(stretch), len(stretch) + 1):
                    if many >= 0:
                        value = by_chance(picker, modulus, many)
                        self.check_holds(makes, plain_makes(modulus, value, stretch), modulus, value, stretch)

    def test_right_values_and_such_with_one_item_otherwise(self):
        picker = random.Random(203)
        for modulus in range(2, 10):
            for order in (1, 2, 4, 5, 7, 12):
                factors = by_chance(picker, modulus, order)
                stretch = list(by_chance(picker, modulus, order))
                for n in range(order, 60):
                    stretch.append(sum(factors[i] * stretch[n - 1 - i] for i in range(order)) % modulus)
                stretch = tuple(stretch)
                self.check_holds(makes, True, modulus, factors, stretch)
                for place in range(order):
                    wrong = otherwise(picker, modulus, factors, place)
                    self.check_holds(makes, plain_makes(modulus, wrong, stretch), modulus, wrong, stretch)
                    for item in NO_NUMBERS + (modulus, modulus + factors[place], factors[place] - modulus):
                        wrong = factors[:place] + (item,) + factors[place + 1:]
                        self.check_holds(makes, False, modulus, wrong, stretch)
                self.check_holds(makes, False, modulus, list(factors), stretch)

    def test_lengths(self):
        for modulus in range(2, 10):
            for stretch in ((), (0,), (1,), (0, 0, 0), (1, 0, 1), (0,) * 100):
                self.check_holds(makes, not any(stretch), modulus, (), stretch)
                self.check_holds(makes, True, modulus, (1,) * len(stretch), stretch)
                self.check_holds(makes, False, modulus, (0,) * (len(stretch) + 1), stretch)
                self.check_holds(makes, False, modulus, (0,) * (len(stretch) + 9), stretch)

    def test_values_of_all_kinds(self):
        for stretch in ((), (0,), (0, 1), (0,) * 20):
            for modulus in (2, 3, 9):
                for value in VALUES:
                    wanted = plain_makes(modulus, value, stretch)
                    self.check_holds(makes, wanted, modulus, value, stretch)

    def test_by_name(self):
        self.by_name(makes, True, modulus=4, value=(2,), stretch=(1, 2, 0, 0))


class RefusedAt(Case):
    def test_against_plain_reckoning(self):
        picker = random.Random(204)
        for modulus in range(2, 10):
            for stretch in stretches(modulus, 205):
                for many in {0, 1, 2, 3, 6, len(stretch) - 1, len(stretch)}:
                    if 0 <= many <= len(stretch):
                        factors = by_chance(picker, modulus, many)
                        self.assert_same(self.quick(refused_at, modulus, factors, stretch),
                                         plain_refused(modulus, factors, stretch))

    def test_known(self):
        self.assert_same(refused_at(2, (), ()), None)
        self.assert_same(refused_at(2, (), (0, 0, 1)), 2)
        self.assert_same(refused_at(2, (1,), (1,)), None)
        self.assert_same(refused_at(9, (8,), (1, 8, 1, 8, 8)), 4)
        self.assert_same(refused_at(2, (0, 1, 1), TAPS), None)
        self.assert_same(refused_at(2, (0, 1, 1), TAPS + (1,)), 7)
        # The first factor goes with the number just ahead, the last one with the farthest.
        self.assert_same(refused_at(5, (1, 2), (1, 0, 2, 2, 1)), None)
        self.assert_same(refused_at(5, (2, 1), (1, 0, 2, 2, 1)), 2)

    def test_by_name(self):
        self.by_name(refused_at, 2, modulus=2, factors=(), stretch=(0, 0, 1))


class LeastSum(Case):
    def test_examples(self):
        self.assert_same(least_sum(4, (1, 2, 0, 0)), (2,))
        self.assert_same(least_sum(4, (2, 1)), (0, 0))

    def test_short_stretches(self):
        for modulus, most in ((2, 8), (3, 5), (4, 4), (5, 4), (6, 3), (7, 3), (8, 3), (9, 3)):
            for stretch in short_stretches(modulus, most):
                self.assert_same(least_sum(modulus, stretch), plain_least_sum(modulus, stretch))

    def test_long_stretches(self):
        nones = 0
        for modulus in range(2, 10):
            for stretch in stretches(modulus, 206)[::7]:
                wanted = plain_least_sum(modulus, stretch)
                nones += wanted is None
                self.assert_same(self.quick(least_sum, modulus, stretch), wanted)
        self.assertGreater(nones, 10)

    def test_many_numbers(self):
        most = {2: 12, 3: 7, 4: 6, 5: 5, 6: 4, 7: 4, 8: 4, 9: 3}
        for modulus, many in most.items():
            # A number behind so many noughts but one is made by no fewer, and by the first ones.
            self.assert_same(self.quick(least_sum, modulus, (0,) * (many - 1) + (1,)), (0,) * many)
            self.assert_same(self.quick(least_sum, modulus, (0,) * many + (1,)), None)
            self.assert_same(self.quick(least_sum, modulus, (1,) + (0,) * (many - 1) + (1,)),
                             (0,) * (many - 1) + (1,))
            self.assert_same(self.quick(least_sum, modulus, (0,) * 99 + (1,)), None)

    def test_noughts(self):
        for modulus in range(2, 10):
            for many in (0, 1, 7, 100):
                self.assert_same(least_sum(modulus, (0,) * many), ())

    def test_by_name(self):
        self.by_name(least_sum, (2,), modulus=4, stretch=(1, 2, 0, 0))


class Refusals(Case):
    def test_examples(self):
        self.assert_same(refusals(4, (1, 2, 0, 0), 1), (1, 1, None, 1))
        self.assert_same(refusals(4, (2, 1), 1), (1, 1, 1, 1))

    def test_against_plain_reckoning(self):
        for modulus in range(2, 10):
            for stretch in stretches(modulus, 207)[::4]:
                for many in (0, 1, 2, 3):
                    if many <= len(stretch):
                        wanted = tuple(plain_refused(modulus, factors, stretch)
                                       for factors in tuples(modulus, many))
                        self.assert_same(refusals(modulus, stretch, many), wanted)

    def test_many_tuples(self):
        most = {2: 12, 3: 7, 4: 6, 5: 5, 6: 4, 7: 4, 8: 4, 9: 3}
        picker = random.Random(208)
        for modulus, many in most.items():
            self.assertLessEqual(modulus ** many, 5000)
            self.assertGreater(modulus ** (many + 1), 5000)
            for stretch in (by_chance(picker, modulus, 100), by_rule(picker, modulus, 100, 3), (0,) * 99 + (1,),
                            by_chance(picker, modulus, many)):
                found = self.quick(refusals, modulus, stretch, many)
                self.assertEqual(len(found), modulus ** many)
                for place in [0, len(found) - 1] + picker.sample(range(len(found)), 60):
                    factors = tuple(place // modulus ** (many - 1 - i) % modulus for i in range(many))
                    self.assert_same(found[place], plain_refused(modulus, factors, stretch))

    def test_by_name(self):
        self.by_name(refusals, (1, 1, None, 1), modulus=4, stretch=(1, 2, 0, 0), many=1)


class Factors(Case):
    def check(self, prime, stretch, wanted):
        """The fewest are as wanted, and least_factors are so many that make the stretch."""
        self.assert_same(self.quick(fewest_factors, prime, stretch), wanted)
        found = self.quick(least_factors, prime, stretch)
        self.assertEqual(len(found), wanted)
        self.assertTrue(plain_makes(prime, found, stretch))

    def test_examples(self):
        self.check(2, TAPS, 3)
        self.assert_same(least_factors(2, TAPS), (0, 1, 1))
        self.assert_same(profile(2, TAPS), (0, 0, 0, 3, 3, 3, 3, 3))

    def test_short_stretches(self):
        for prime, most in ((2, 8), (3, 5), (5, 4), (7, 3)):
            for stretch in short_stretches(prime, most):
                self.check(prime, stretch, plain_fewest(prime, stretch))

    def test_profile_of_short_stretches(self):
        for prime, most in ((2, 8), (3, 5), (5, 4), (7, 3)):
            for stretch in tuples(prime, most):
                wanted = tuple(plain_fewest(prime, stretch[:many]) for many in range(most + 1))
                self.assert_same(profile(prime, stretch), wanted)

    def test_longer_stretches(self):
        # Here a lack shows that fewer numbers do not make the stretch.
        for prime in PRIMES:
            for stretch in stretches(prime, 209):
                fewest = len(self.quick(least_factors, prime, stretch))
                self.check(prime, stretch, fewest)
                if fewest > 0:
                    shown = lack(prime, stretch, fewest - 1)
                    self.assertTrue(plain_is_lack(prime, stretch, fewest - 1, shown))

    def test_profile_of_longer_stretches(self):
        for prime in PRIMES:
            for stretch in stretches(prime, 210):
                found = self.quick(profile, prime, stretch)
                self.assertEqual(len(found), len(stretch) + 1)
                for many in {0, 1, 2, 3, 9, 33, len(stretch) // 2, len(stretch)}:
                    if many <= len(stretch):
                        self.assert_same(found[many], fewest_factors(prime, stretch[:many]))

    def test_guarantee_of_the_next_number(self):
        for prime, most in ((2, 7), (3, 4), (5, 3)):
            for stretch in short_stretches(prime, most):
                many = fewest_factors(prime, stretch)
                making = [factors for factors in tuples(prime, many) if makes(prime, factors, stretch)]
                if 2 * many <= len(stretch):
                    self.assertEqual(len(making), 1)
                for further in range(prime):
                    longer_one = stretch + (further,)
                    goes_on = any(makes(prime, factors, longer_one) for factors in making)
                    wanted = many if goes_on else max(many, len(stretch) + 1 - many)
                    self.assertEqual(fewest_factors(prime, longer_one), wanted)

    def test_known(self):
        for prime in PRIMES:
            self.check(prime, (), 0)
            self.check(prime, (0,) * 100, 0)
            self.check(prime, (0,) * 99 + (1,), 100)
            self.check(prime, (1,) + (0,) * 99, 1)
            self.check(prime, (1,) * 99 + (0,), 99)
            self.check(prime, (0,) * 40 + (1,) + (0,) * 59, 41)
            self.assert_same(profile(prime, ()), (0,))

    def test_as_the_rows_of_rules(self):
        for rule in ((2, (1, 1), (0, 1)), (7, (0, 1, 1, 4), (0, 0, 0, 1)), (5, (2, 0, 3), (1, 4, 2))):
            for many in (0, 1, 2, 5, 8, 100):
                stretch = values(rule, many)
                self.assertLessEqual(fewest_factors(rule[0], stretch), len(rule[1]))
            self.assert_same(least_factors(rule[0], values(rule, 100)), rule[1])

    def test_by_name(self):
        self.by_name(fewest_factors, 3, prime=2, stretch=TAPS)
        self.by_name(least_factors, (0, 1, 1), prime=2, stretch=TAPS)
        self.by_name(profile, (0, 0, 0, 3, 3, 3, 3, 3), prime=2, stretch=TAPS)


class Lack(Case):
    def test_example(self):
        self.check_holds(is_lack, True, 2, TAPS, 2, (1, 0, 0, 0, 0))
        self.assertTrue(plain_is_lack(2, TAPS, 2, lack(2, TAPS, 2)))

    def check(self, prime, stretch, many, there):
        """There is a lack exactly if there says so, and is_lack takes it."""
        found = self.quick(lack, prime, stretch, many)
        if not there:
            self.assertIsNone(found)
            return
        self.assertTrue(plain_is_lack(prime, stretch, many, found))
        self.check_holds(is_lack, True, prime, stretch, many, found)

    def test_short_stretches(self):
        for prime, most in ((2, 7), (3, 4), (5, 3), (7, 3)):
            for stretch in short_stretches(prime, most):
                for many in range(len(stretch) + 1):
                    made = any(plain_refused(prime, factors, stretch) is None for factors in tuples(prime, many))
                    self.check(prime, stretch, many, not made)

    def test_is_lack_of_all_values(self):
        for prime, most in ((2, 6), (3, 4), (5, 3)):
            for stretch in short_stretches(prime, most):
                for many in range(len(stretch) + 1):
                    held = 0
                    for value in tuples(prime, len(stretch) - many):
                        wanted = plain_is_lack(prime, stretch, many, value)
                        held += wanted
                        self.assertIs(is_lack(prime, stretch, many, value), wanted)
                    self.assertEqual(held > 0, lack(prime, stretch, many) is not None)

    def test_longer_stretches(self):
        for prime in PRIMES:
            for stretch in stretches(prime, 211)[::5]:
                fewest = fewest_factors(prime, stretch)
                for many in {0, 1, 2, 5, fewest - 1, fewest, fewest + 1, len(stretch) // 2, len(stretch) - 1,
                             len(stretch)}:
                    if 0 <= many <= len(stretch):
                        self.check(prime, stretch, many, many < fewest)

    def test_wrong_in_one_thing(self):
        picker = random.Random(212)
        for prime in PRIMES:
            for stretch in (by_chance(picker, prime, 12), (0,) * 11 + (1,), by_rule(picker, prime, 20, 3)):
                for many in range(fewest_factors(prime, stretch)):
                    right = lack(prime, stretch, many)
                    for place, item in enumerate(right):
                        wrong = otherwise(picker, prime, right, place)
                        self.check_holds(is_lack, plain_is_lack(prime, stretch, many, wrong), prime, stretch,
                                         many, wrong)
                        for other in NO_NUMBERS + (item + prime, item - prime):
                            wrong = right[:place] + (other,) + right[place + 1:]
                            self.check_holds(is_lack, False, prime, stretch, many, wrong)
                    for wrong in (list(right), right + (0,), right[:-1], (0,) + right, right[::2], (right,)):
                        self.check_holds(is_lack, plain_is_lack(prime, stretch, many, wrong), prime, stretch,
                                         many, wrong)

    def test_sums_that_are_not_1(self):
        # The sums ahead are 0 as they should be, that of the numbers themselves is 2.
        for prime in (3, 5, 7):
            stretch = (0, 0, 2, 1)
            self.check_holds(is_lack, False, prime, stretch, 2, (1, 0))
            self.check_holds(is_lack, True, prime, stretch, 2, ((prime + 1) // 2, 0))

    def test_values_of_all_kinds(self):
        for prime in PRIMES:
            for stretch in ((), (0,), (1,), (0, 1), (1, 0), (1, 1, 1)):
                for many in range(len(stretch) + 1):
                    for value in VALUES:
                        wanted = plain_is_lack(prime, stretch, many, value)
                        self.check_holds(is_lack, wanted, prime, stretch, many, value)

    def test_at_the_length_there_is_none(self):
        for prime in PRIMES:
            for stretch in ((), (1,), (0, 1, 1), (1,) * 100):
                self.assertIsNone(lack(prime, stretch, len(stretch)))
                self.check_holds(is_lack, False, prime, stretch, len(stretch), ())

    def test_by_name(self):
        self.by_name(lack, lack(2, TAPS, 2), prime=2, stretch=TAPS, many=2)
        self.by_name(is_lack, True, prime=2, stretch=TAPS, many=2, value=(1, 0, 0, 0, 0))


def known_tables(most):
    """Least tables of up to so many signs in head and turn together."""
    picker = random.Random(213)
    found = [EMPTY, ALL] + least_tables(3, 3)
    for size in (7, 12, 20, 33, most):
        for head in {0, 1, size // 2, size - 1}:
            digits = "".join(picker.choice("01") for _ in range(size - 1))
            table = (digits[:head], digits[head:] + "1")
            if head and table[0][-1] == "1":
                table = (table[0][:-1] + "0", table[1])
            found.append(table)
        found += [("0" * (size - 2) + "1", "0"), ("", prime_turn(size)), ("1" * (size - 2) + "0", "1")]
    return found


class ToldSum(Case):
    def check(self, table):
        head, turn = table
        size = len(head) + len(turn)
        found = self.quick(told_sum, table)
        text = [int(mark) for mark in row(table, 6 * size + 10)]
        self.assertLessEqual(len(found), size)
        self.assertTrue(plain_makes(2, found, text))
        # As few as can be: the fewest that make the first signs, as the guarantee tells.
        self.assert_same(found, least_factors(2, tuple(text[:2 * size])))
        return found

    def test_examples(self):
        self.assert_same(told_sum(("", "011")), (1, 1))
        self.assert_same(told_sum(("", "100")), (0, 0, 1))
        self.assert_same(told_sum(("1", "0")), (0,))

    def test_empty_and_all(self):
        self.assert_same(told_sum(EMPTY), ())
        self.assert_same(told_sum(("00", "000")), ())
        self.assert_same(told_sum(ALL), (1,))

    def test_tables(self):
        for table in known_tables(50):
            self.check(table)

    def test_no_fewer_numbers(self):
        for table in least_tables(3, 3):
            text = [int(mark) for mark in row(table, 40)]
            wanted = plain_fewest(2, tuple(text))
            self.assertEqual(len(told_sum(table)), wanted)

    def test_many_forms(self):
        for table in known_tables(30):
            for form in (longer(table, 1, 1), longer(table, 70, 3), longer(table, 0, 40)):
                self.assert_same(self.quick(told_sum, form), told_sum(table))

    def test_bound(self):
        for head in (0, 1, 25, 48, 49):
            for size, fits in ((50, True), (51, False)):
                table = ("1" * (head - 1) + "0" if head else "", "0" * (size - head - 1) + "1")
                self.assertEqual(len(table[0]) + len(table[1]), size)
                for form in (table, longer(table, 3, 2)):
                    if fits:
                        self.assert_same(told_sum(form), self.check(table))
                    else:
                        self.assertRaises(TooGreat, told_sum, form)

    def test_by_name(self):
        self.by_name(told_sum, (1, 1), table=("", "011"))


def plain_is_enough(table, many):
    """Whether so many are memory enough, by all numbers that can differ."""
    far = len(table[0]) + len(table[1]) + many + 5
    text = row(table, far)
    following = {}
    return all(following.setdefault(text[n - many:n], text[n]) == text[n] for n in range(many, far))


def plain_is_fork(table, many, value):
    if type(value) is not tuple or len(value) != 2:
        return False
    if not all(type(item) is int and item >= many for item in value):
        return False
    m, n = value
    if m >= n or sign(table, m) == sign(table, n):
        return False
    return all(sign(table, m - i) == sign(table, n - i) for i in range(1, many + 1))


class Memory(Case):
    def check(self, table):
        found = self.quick(memory, table)
        self.assertTrue(plain_is_enough(table, found))
        self.assertTrue(plain_is_enough(table, found + 1))
        if found > 0:
            self.assertFalse(plain_is_enough(table, found - 1))
        return found

    def test_examples(self):
        self.assert_same(memory(("", "011")), 2)
        self.assert_same(memory(("1", "0")), 1)
        self.assert_same(memory(("0011", "0")), 3)

    def test_tables(self):
        for table in known_tables(200):
            found = self.check(table)
            size = len(table[0]) + len(table[1])
            self.assertLessEqual(found, size)
            self.assertEqual(found == 0, table in (EMPTY, ALL))
            if size <= 50:
                self.assertLessEqual(found, len(told_sum(table)))

    def test_many_forms(self):
        for table in known_tables(60):
            for form in (longer(table, 1, 1), longer(table, 70, 3), longer(table, 0, 10)):
                self.assert_same(self.quick(memory, form), memory(table))

    def test_known(self):
        self.assert_same(memory(EMPTY), 0)
        self.assert_same(memory(ALL), 0)
        for size in (2, 3, 50, 200):
            self.assert_same(memory(("", prime_turn(size))), size - 1)
        self.assert_same(memory(("0" * 198 + "1", "0")), 199)

    def test_by_name(self):
        self.by_name(memory, 2, table=("", "011"))


class Forks(Case):
    def check(self, table, many):
        """There is a fork exactly if so many are not memory enough."""
        found = self.quick(fork, table, many)
        if many >= memory(table):
            self.assertIsNone(found)
            return
        self.assertTrue(plain_is_fork(table, many, found))
        self.check_holds(is_fork, True, table, many, found)

    def test_examples(self):
        self.check_holds(is_fork, True, ("", "011"), 1, (2, 3))
        self.check_holds(is_fork, True, ("1", "0"), 0, (0, 1))
        self.check_holds(is_fork, True, ("0011", "0"), 2, (2, 6))
        self.assertIsNone(fork(("0011", "0"), 3))

    def test_tables(self):
        for table in known_tables(200):
            found = memory(table)
            for many in {0, 1, 2, 3, found - 2, found - 1, found, found + 1, 199, 200, 201, 399, 400}:
                if many >= 0:
                    self.check(table, many)

    def test_many_forms(self):
        for table in known_tables(40)[::3]:
            for form in (longer(table, 1, 1), longer(table, 70, 3), longer(table, 0, 10)):
                for many in (0, 1, 2, 5, 30, 100, 400):
                    self.check(form, many)

    def test_is_fork_against_plain_look(self):
        for table in least_tables(3, 3) + [("0110", "01101"), ("", "0010111")]:
            for form in (table, longer(table, 2, 2)):
                for many in (0, 1, 2, 3, 4):
                    for m in range(12):
                        for n in range(16):
                            wanted = plain_is_fork(table, many, (m, n))
                            self.assertIs(is_fork(form, many, (m, n)), wanted)

    def test_far_pairs(self):
        # A turn more, often, makes fork of fork if the lower number has its signs in the turn.
        table = ("0110", "0010111")
        far = 7 * 10 ** 30
        low, high = next((m, n) for m in range(8, 30) for n in range(m + 1, 40) if plain_is_fork(table, 2, (m, n)))
        for one in (0, 7, 7 * 10 ** 17, far):
            for other in (one, one + 7, one + far):
                self.check_holds(is_fork, True, table, 2, (low + one, high + other))
                self.check_holds(is_fork, plain_is_fork(table, 2, (low + one, high + other + 1)), table, 2,
                                 (low + one, high + other + 1))
        self.check_holds(is_fork, False, table, 2, (high + far, low + far))
        self.check_holds(is_fork, False, table, 2, (high + far, low))

    def test_from_many_on(self):
        # Signs ahead of the first number are none: m has to be from many on.
        table = ("0001", "0")
        self.check_holds(is_fork, True, table, 2, (2, 3) if plain_is_fork(table, 2, (2, 3)) else (3, 7))
        self.check_holds(is_fork, True, table, 3, (3, 7))
        self.check_holds(is_fork, False, table, 4, (3, 8))
        self.check_holds(is_fork, False, table, 4, (3, 7))

    def test_wrong_in_one_thing(self):
        for table, many, pair in ((("", "011"), 1, (2, 3)), (("0011", "0"), 2, (2, 6)), (("1", "0"), 0, (0, 1))):
            low, high = pair
            for wrong in ((high, low), (low, low), (low, high, high), (low,), [low, high], (pair,), pair + ((),)):
                self.check_holds(is_fork, False, table, many, wrong)
            for item in NO_NUMBERS:
                for wrong in ((item, high), (low, item)):
                    self.check_holds(is_fork, plain_is_fork(table, many, wrong), table, many, wrong)

    def test_truths_are_no_numbers(self):
        self.check_holds(is_fork, False, ("1", "0"), 0, (False, True))
        self.check_holds(is_fork, False, ("1", "0"), 0, (0, True))
        self.check_holds(is_fork, False, ("1", "0"), 0, (False, 1))
        self.check_holds(is_fork, True, ("1", "0"), 0, (0, 1))

    def test_values_of_all_kinds(self):
        for table in (EMPTY, ALL, ("1", "0"), ("", "01"), ("0011", "0")):
            for many in (0, 1, 2, 400):
                for value in VALUES:
                    self.check_holds(is_fork, plain_is_fork(table, many, value), table, many, value)

    def test_by_name(self):
        self.by_name(fork, fork(("", "011"), 1), table=("", "011"), many=1)
        self.by_name(is_fork, True, table=("", "011"), many=1, value=(2, 3))


class MemoryBound(Case):
    def test_bound(self):
        for head in (0, 1, 100, 198, 199):
            for size, fits in ((200, True), (201, False)):
                table = ("1" * (head - 1) + "0" if head else "", "0" * (size - head - 1) + "1")
                for form in (table, longer(table, 3, 2)):
                    for function, more in ((memory, ()), (fork, (0,)), (fork, (400,)), (is_fork, (0, (0, 1))),
                                           (is_fork, (0, None)), (is_fork, (400, [0]))):
                        if fits:
                            self.quick(function, form, *more)
                        else:
                            self.assertRaises(TooGreat, function, form, *more)

    def test_it_is_an_error_of_the_package(self):
        for function, more in ((told_sum, ()), (memory, ()), (fork, (3,)), (is_fork, (3, (4, 5)))):
            self.assertRaises(RoundError, function, ("", prime_turn(201)), *more)


if __name__ == "__main__":
    unittest.main()
