import itertools
import random
import unittest
from math import gcd, lcm

from leastmakers.errors import RoundError, TooGreat
from leastmakers.tables import ALL, EMPTY
from leastmakers.webs import (
    bare, is_tour, is_walk, knots, lasso, reached, tour, walk, walked, web_error, web_head, web_turn)
from reckoning import (
    VALUES, Case, from_numbers, least_tables, longer, plain_least, prime_turn, small_tables, told)

W = (3, ((0, 1), (1, 2), (2, 0), (2, 1)), (0,))

# What is no spot, however many there are.
NO_SPOTS = (None, True, False, -1, 12, 13, 10 ** 39, -10 ** 39, "", "0", (), (0,), [], [0], {}, {0: 0})


def ring(first, many):
    return [(first + k, first + (k + 1) % many) for k in range(many)]


def web(many, steps, ends):
    return many, tuple(sorted(set(steps))), tuple(sorted(set(ends)))


def full(many, ends):
    return web(many, itertools.product(range(many), repeat=2), ends)


def random_web(picker, many, steps=None, ends=None):
    if steps is None:
        steps = picker.randint(0, 2 * many)
    if ends is None:
        ends = picker.randint(0, 3)
    pairs = [(picker.randrange(many), picker.randrange(many)) for _ in range(steps)]
    return web(many, pairs, [picker.randrange(many) for _ in range(ends)])


def joined_web(picker, many):
    """A web with a way from spot 0 to all spots, so that most of it counts."""
    pairs = [(picker.randrange(spot), spot) for spot in range(1, many)]
    more = [(picker.randrange(many), picker.randrange(many)) for _ in range(picker.randint(1, 5))]
    return web(many, pairs + more, [picker.randrange(many) for _ in range(picker.randint(1, 3))])


def random_webs(seed, many):
    picker = random.Random(seed)
    webs = []
    for k in range(many):
        size = k % 12 + 1
        webs.append(random_web(picker, size) if k % 3 == 0 else joined_web(picker, size))
    return webs


KNOWN_WEBS = [
    W, (1, (), ()), (1, (), (0,)), (1, ((0, 0),), ()), (1, ((0, 0),), (0,)), (2, ((0, 1),), (1,)),
    (2, ((1, 0), (1, 1)), (1,)), (2, ((0, 0), (0, 1)), (1,)), (12, (), (0, 11)), (12, (), ()),
    (4, ((0, 1), (0, 3), (1, 2), (2, 1)), (2,)), full(12, range(12)), full(12, (11,)), full(12, ()),
    web(12, ring(0, 12), (0,)), web(12, ring(0, 12), (3, 7)), web(12, ring(0, 12) + [(11, 1)], (0,)),
    web(12, [(0, 1), (0, 6)] + ring(1, 5) + ring(6, 6), (1, 6)),
    web(11, [(0, 1), (0, 3), (0, 6)] + ring(1, 2) + ring(3, 3) + ring(6, 5), (1, 3, 6)),
    web(12, ring(0, 2) + [(1, 2)] + ring(2, 4) + [(4, 6)] + ring(6, 6), (9,)),
    web(8, [(k, k + 1) for k in range(7)], (0, 3, 7)), web(5, [(k, k + 1) for k in range(4)] + [(2, 2)], (4,)),
]
WEBS = KNOWN_WEBS + random_webs(31, 72)


def rows_of(one, many):
    """For each number of steps below many the set of spots at which walks of so many end."""
    rows = [{0}]
    while len(rows) < many:
        rows.append({b for a, b in one[1] if a in rows[-1]})
    return rows


def plain_made(one, many):
    return {number for number, spots in enumerate(rows_of(one, many)) if spots & set(one[2])}


def plain_round(one):
    """The rows ahead of the first one that comes again, and its place."""
    rows = [frozenset({0})]
    while True:
        after = frozenset(b for a, b in one[1] if a in rows[-1])
        if after in rows:
            return rows, rows.index(after)
        rows.append(after)


def plain_makes(one, number):
    rows, again = plain_round(one)
    if number >= len(rows):
        number = again + (number - again) % (len(rows) - again)
    return bool(rows[number] & set(one[2]))


def is_spot(one, value):
    return type(value) is int and 0 <= value < one[0]


def plain_way(one, value):
    if type(value) is not tuple or not value or not all(is_spot(one, spot) for spot in value):
        return False
    return set(zip(value, value[1:])) <= set(one[1])


def plain_is_walk(one, number, value):
    return (plain_way(one, value) and len(value) == number + 1 and value[0] == 0 and
            value[-1] in one[2])


def plain_is_tour(one, number, value):
    if type(value) is not tuple or len(value) != 4:
        return False
    front, circle, times, behind = value
    if type(times) is not int or times < 0:
        return False
    if not plain_way(one, front) or not plain_way(one, behind):
        return False
    if front[0] != 0 or behind[0] != front[-1] or behind[-1] not in one[2]:
        return False
    if len(front) + len(behind) > 4000:
        return False
    steps = len(front) + len(behind) - 2
    if times == 0:
        return type(circle) is tuple and circle == () and steps == number
    if not plain_way(one, circle) or not 2 <= len(circle) <= 13:
        return False
    return circle[0] == circle[-1] == front[-1] and steps + times * (len(circle) - 1) == number


class WebError(Case):
    def check(self, value, word):
        self.check_value(web_error, value, word)

    def test_webs(self):
        for one in WEBS + random_webs(32, 120):
            self.check(one, None)
        for many in range(1, 13):
            self.check((many, (), ()), None)
            self.check((many, (), tuple(range(many))), None)
            self.check(full(many, ()), None)
            self.check(full(many, range(many)), None)

    def test_form(self):
        for value in VALUES + ((1, ()), (1, (), (), ()), [1, (), ()], {1: ()}, ((), ()), "111"):
            if not isinstance(value, tuple) or len(value) != 3:
                self.check(value, "form")
        self.check([3, (), ()], "form")
        self.check(("0", "1", "0"), "many")

    def test_many(self):
        for wrong in (None, True, False, 0, -1, 13, 14, 10 ** 39, -10 ** 39, "", "3", (), (3,), [], [3],
                      {}, {3: 3}):
            for steps in ((), ((0, 0),), None, [(0, 0)], ((0, 99),)):
                for ends in ((), (0,), None, [0], (99,)):
                    self.check((wrong, steps, ends), "many")

    def test_steps(self):
        for many in (1, 3, 12):
            wrongs = [(many, 0), (0, many), (many + 1, many + 1)]
            wrongs += [(spot, 0) for spot in NO_SPOTS] + [(0, spot) for spot in NO_SPOTS]
            wrongs += [None, True, 0, "", "00", (), (0,), (0, 0, 0), [0, 0], {0: 0}, ((0, 0), (0, 0))]
            for wrong in wrongs:
                self.check((many, (wrong,), ()), "steps")
                self.check((many, (wrong,), None), "steps")
                self.check((many, ((0, 0), wrong), (0,)), "steps")
        for wrong in (None, True, 5, "", "01", [], [(0, 1)], {}, {(0, 1): 1}, (0, 1), (0,)):
            for ends in ((), (0,), None, (5,)):
                self.check((3, wrong, ends), "steps")

    def test_order_of_steps(self):
        self.check((3, ((0, 1), (0, 1)), ()), "steps")
        self.check((3, ((0, 2), (0, 1)), ()), "steps")
        self.check((3, ((1, 0), (0, 1)), ()), "steps")
        self.check((3, ((0, 0), (0, 1), (0, 1), (0, 2)), ()), "steps")
        self.check((3, ((0, 1), (2, 0), (1, 2)), (0,)), "steps")
        self.check((3, ((0, 1), (1, 0), (2, 0)), (0,)), None)
        steps = full(12, ())[1]
        self.check((12, steps[1:] + steps[:1], ()), "steps")
        self.check((12, steps + steps[-1:], ()), "steps")

    def test_ends(self):
        for many in (1, 3, 12):
            for wrong in NO_SPOTS:
                self.check((many, (), (wrong,)), "ends")
                self.check((many, ((0, 0),), (0, wrong)), "ends")
            self.check((many, (), (many,)), "ends")
        for wrong in (None, True, 5, "", "0", [], [0], {}, {0: 0}, (0, 0), (1, 0), (0, 2, 1), (0, 1, 1),
                      ((0,),), (3,), (0, 1, 2, 3)):
            self.check((3, ((0, 1),), wrong), "ends")
        self.check((3, (), (0, 1, 2)), None)

    def test_the_first_word_is_told(self):
        self.check((0, None, None), "many")
        self.check((3, None, None), "steps")
        self.check((3, ((0, 3),), (3,)), "steps")
        self.check((3, (), (3,)), "ends")
        self.check((13, (), ()), "many")
        self.check([13, 5, 5], "form")

    def test_by_name(self):
        self.by_name(web_error, None, value=W)
        self.by_name(web_error, "ends", value=(3, (), (3,)))


class Walked(Case):
    def test_examples(self):
        self.assertEqual(walked(W), ("10010", "1"))
        self.assertEqual(reached(W), (((0,), (1,), (2,), (0, 1), (1, 2), (0, 1, 2)), 5))
        self.assertEqual(walked((4, ((0, 1), (0, 3), (1, 2), (2, 1)), (2,))), ("0", "01"))

    def test_against_the_rows(self):
        for one in WEBS + random_webs(33, 240):
            rows, again = plain_round(one)
            self.assertLessEqual(len(rows), 200)
            wanted = tuple(tuple(sorted(spots)) for spots in rows), again
            self.assert_same(self.quick(reached, one), wanted)
            many = len(rows) + (len(rows) - again)
            found = self.quick(walked, one)
            self.assert_same(found, from_numbers(plain_made(one, many), again, len(rows) - again))
            self.assertEqual(told(found, 200), plain_made(one, 200))

    def test_sizes(self):
        for one in WEBS + random_webs(34, 120):
            head, turn = walked(one)
            self.assertLessEqual(len(head), (one[0] - 1) ** 2 + 1)
            self.assertLessEqual(len(turn), web_turn(one[0])[0])
            self.assertEqual(lcm(*[size for _, size in knots(one)]) % len(turn), 0)

    def test_small(self):
        self.assertEqual(walked((1, (), ())), EMPTY)
        self.assertEqual(walked((1, (), (0,))), ("1", "0"))
        self.assertEqual(walked((1, ((0, 0),), (0,))), ALL)
        self.assertEqual(walked((1, ((0, 0),), ())), EMPTY)
        self.assertEqual(reached((1, (), (0,))), (((0,), ()), 1))
        self.assertEqual(reached((1, ((0, 0),), ())), (((0,),), 0))
        self.assertEqual(reached((2, ((0, 1),), ())), (((0,), (1,), ()), 2))

    def test_all_webs_of_two_spots(self):
        pairs = ((0, 0), (0, 1), (1, 0), (1, 1))
        for chosen in itertools.product((0, 1), repeat=4):
            for ends in ((), (0,), (1,), (0, 1)):
                one = web(2, [pair for pair, keep in zip(pairs, chosen) if keep], ends)
                self.assertEqual(told(walked(one), 30), plain_made(one, 30))

    def test_by_name(self):
        self.by_name(walked, ("10010", "1"), web=W)
        self.by_name(reached, reached(W), web=W)


class Walk(Case):
    def check(self, one, number, is_made):
        found = self.quick(walk, one, number)
        if not is_made:
            self.assertIsNone(found)
            return
        self.assertTrue(plain_is_walk(one, number, found), (one, number, found))
        self.assert_same(is_walk(one, number, found), True)

    def test_small_numbers(self):
        for one in WEBS:
            made = plain_made(one, 45)
            for number in range(45):
                self.check(one, number, number in made)

    def test_numbers_to_2000(self):
        for one in WEBS:
            for number in (121, 122, 123, 500, 997, 1999, 2000):
                self.check(one, number, plain_makes(one, number))

    def test_by_name(self):
        self.by_name(walk, (0, 1, 2, 0), web=W, number=3)
        self.by_name(walk, None, web=W, number=4)
        self.by_name(is_walk, True, web=W, number=3, value=(0, 1, 2, 0))


class IsWalk(Case):
    def check(self, one, number, value):
        wanted = plain_is_walk(one, number, value)
        self.check_holds(is_walk, wanted, one, number, value)
        return wanted

    def test_example(self):
        self.assertTrue(self.check(W, 5, (0, 1, 2, 1, 2, 0)))

    def test_all_short_tuples(self):
        for one in (W, (3, ((0, 0), (0, 1), (1, 2)), (0, 2)), (3, (), (0,))):
            for size in range(5):
                for value in itertools.product(range(-1, 4), repeat=size):
                    for number in (size - 1, size, 0, 2):
                        if number >= 0:
                            self.check(one, number, value)

    def test_other_values(self):
        for value in VALUES + ([0], (False,), ("0",), ([0],), ((0,),), (None,), {0: 0}, (0.0,)):
            self.assertFalse(self.check((1, ((0, 0),), ()), 0, value))
            self.check((2, ((0, 1),), (1,)), 1, value)
        self.assertTrue(self.check((1, (), (0,)), 0, (0,)))
        self.assertFalse(self.check((1, (), (0,)), 0, (False,)))
        self.assertFalse(self.check((1, (), (0,)), 0, [0]))
        self.assertFalse(self.check((1, (), (0,)), 0, ()))
        self.assertTrue(self.check((2, ((0, 1),), (1,)), 1, (0, 1)))
        self.assertFalse(self.check((2, ((0, 1),), (1,)), 1, (0, True)))
        self.assertFalse(self.check((2, ((0, 1),), (1,)), 1, (False, 1)))
        self.assertFalse(self.check((2, ((0, 1),), (1,)), 1, [0, 1]))

    def test_wrong_in_one_thing(self):
        value = walk(W, 2000)
        self.assertTrue(self.check(W, 2000, value))
        self.assertFalse(self.check(W, 1999, value))
        self.assertFalse(self.check(W, 2001, value))
        self.assertFalse(self.check(W, 2000, value[:-1]))
        self.assertFalse(self.check(W, 1999, value[:-1]))
        self.assertFalse(self.check(W, 2000, list(value)))
        self.assertFalse(self.check(W, 1999, value[1:]))
        for place in (0, 1, 2, 1000, 1999, 2000):
            for new in (None, True, "1", -1, 3, 12):
                self.assertFalse(self.check(W, 2000, value[:place] + (new,) + value[place + 1:]))
        for place in range(0, 2001, 50):
            for new in range(3):
                self.check(W, 2000, value[:place] + (new,) + value[place + 1:])


class Tour(Case):
    def check(self, one, number):
        found = self.quick(tour, one, number)
        if not plain_makes(one, number):
            self.assertIsNone(found)
            return
        self.assertTrue(plain_is_tour(one, number, found), (one, number, found))
        self.assert_same(is_tour(one, number, found), True)

    def test_numbers(self):
        picker = random.Random(35)
        near = tuple(range(20)) + (60, 122, 1000, 1999, 2000, 2001, 2002, 2013, 4000, 4001)
        far = (10 ** 18, 10 ** 18 - 1, 10 ** 18 - 2, 10 ** 9 + 7)
        for one in WEBS:
            for number in near + far + tuple(picker.randint(2001, 10 ** 18) for _ in range(6)):
                self.check(one, number)

    def test_all_remainders(self):
        for one in KNOWN_WEBS + random_webs(36, 24):
            for number in list(range(1990, 2035)) + list(range(10 ** 18 - 30, 10 ** 18 + 1)):
                self.check(one, number)

    def test_rings_far_from_spot_0_and_from_the_ends(self):
        one = web(12, [(k, k + 1) for k in range(11)] + [(6, 5)], (11,))
        for number in (11, 13, 12, 2001, 2002, 10 ** 18 + 1, 10 ** 18):
            self.check(one, number)
        # Spots 1 to 4 go round, but lead to no end; spot 6 goes round, but is not come to.
        one = web(9, ring(1, 4) + [(0, 1), (0, 7), (7, 7), (6, 6), (6, 7)], (7,))
        for number in (0, 1, 2, 3000, 10 ** 18):
            self.check(one, number)
        one = web(9, ring(1, 4) + [(0, 1), (0, 7), (6, 6), (6, 7)], (7,))
        for number in (0, 1, 2, 3000, 10 ** 18):
            self.check(one, number)

    def test_by_name(self):
        self.by_name(tour, None, web=W, number=4)
        self.assertEqual(tour(number=10 ** 18, web=W), tour(W, 10 ** 18))
        self.by_name(is_tour, True, web=W, number=3, value=((0,), (0, 1, 2, 0), 1, (0,)))
        self.by_name(is_tour, False, web=W, number=4, value=((0,), (0, 1, 2, 0), 1, (0,)))


class IsTour(Case):
    def check(self, one, number, value):
        wanted = plain_is_tour(one, number, value)
        self.check_holds(is_tour, wanted, one, number, value)
        return wanted

    def test_example(self):
        self.assertTrue(self.check(W, 3 * 10 ** 17, ((0,), (0, 1, 2, 0), 10 ** 17, (0,))))

    def test_other_values(self):
        for value in VALUES + ((), ((0,),), ((0,), (), 0), ((0,), (), 0, (0,), ()), [(0,), (), 0, (0,)],
                               ((0,), (), 0, [0]), ([0], (), 0, (0,)), ((0,), [], 0, (0,)),
                               ((0,), None, 0, (0,)), ((0,), (), None, (0,)), ((0,), (), False, (0,)),
                               ((0,), (), "0", (0,)), ((), (), 0, (0,)), ((0,), (), 0, ()), "0000",
                               ((False,), (), 0, (0,)), ((0,), (), 0, (False,)), (0, 0, 0, 0)):
            self.assertFalse(self.check(W, 0, value), value)
        self.assertTrue(self.check(W, 0, ((0,), (), 0, (0,))))
        self.assertFalse(self.check(W, 1, ((0,), (), 0, (0,))))

    def test_wrong_in_one_thing(self):
        front, circle, behind = (0, 1), (1, 2, 1), (1, 2, 0)
        self.assertTrue(self.check(W, 3 + 2 * 50, (front, circle, 50, behind)))
        for number in (102, 104, 105, 0, 3, 10 ** 18):
            self.assertFalse(self.check(W, number, (front, circle, 50, behind)))
        for times in (0, 49, 51, -1, -50, None, "50", True, 10 ** 39, (50,), [50]):
            self.assertFalse(self.check(W, 103, (front, circle, times, behind)))
        for wrong in ((), (0,), (1,), (1, 2), (0, 2), (0, True), (False, 1), [0, 1], None, "01", (0, 3),
                      (0, 1, 2), (0, 1, 2, 1), 5, {0: 1}, (1, 2, 0, 1)):
            self.check(W, 103, (wrong, circle, 50, behind))
        self.assertFalse(self.check(W, 103, ((0, True), circle, 50, behind)))
        self.assertFalse(self.check(W, 103, ([0, 1], circle, 50, behind)))
        self.assertFalse(self.check(W, 105, ((1, 2, 0, 1), circle, 50, behind)))
        for wrong in ((), (1,), (1, 2), (2, 1, 2), (1, 1), (1, 2, True), [1, 2, 1], None, "121",
                      (1, 2, 0, 1), (1, 0, 1), (0, 1, 2, 0), (1, 2, 3), 5, {1: 1}):
            self.assertFalse(self.check(W, 103, (front, wrong, 50, behind)))
        self.assertTrue(self.check(W, 3 + 3 * 50, (front, (1, 2, 0, 1), 50, behind)))
        for wrong in ((), (1,), (1, 2), (2, 0), (1, 2, False), [1, 2, 0], None, "120", (1, 0), (0,),
                      (1, 2, 1), (1, 2, 1, 2, 0), (1, 2, 3), 5):
            self.assertFalse(self.check(W, 103, (front, circle, 50, wrong)))
        self.assertTrue(self.check(W, 105, (front, circle, 50, (1, 2, 1, 2, 0))))
        self.assertTrue(self.check(W, 105, ((0, 1, 2, 1), circle, 50, behind)))

    def test_times_and_ring(self):
        self.assertTrue(self.check(W, 3, ((0, 1), (), 0, (1, 2, 0))))
        self.assertFalse(self.check(W, 3, ((0, 1), (1, 2, 1), 0, (1, 2, 0))))
        self.assertFalse(self.check(W, 3, ((0, 1), (), 1, (1, 2, 0))))
        self.assertFalse(self.check(W, 3, ((0, 1), (1,), 0, (1, 2, 0))))
        self.assertFalse(self.check(W, 3, ((0, 1), (1,), 1, (1, 2, 0))))
        self.assertFalse(self.check(W, 5, ((0, 1), (1, 2, 1), True, (1, 2, 0))))
        self.assertTrue(self.check(W, 5, ((0, 1), (1, 2, 1), 1, (1, 2, 0))))
        self.assertFalse(self.check(W, 3, ((0, 1), (), False, (1, 2, 0))))

    def test_lengths_of_rings(self):
        one = web(12, ring(0, 12) + [(0, 0)], (0,))
        circle = tuple(range(12)) + (0,)
        self.assertTrue(self.check(one, 12 * 10 ** 17, ((0,), circle, 10 ** 17, (0,))))
        self.assertFalse(self.check(one, 13 * 10 ** 17, ((0,), (0,) + circle, 10 ** 17, (0,))))
        self.assertFalse(self.check(one, 13 * 10 ** 17, ((0,), circle + (0,), 10 ** 17, (0,))))
        for size in range(1, 15):
            holds = self.check(one, 7 * size, ((0,), (0,) * (size + 1), 7, (0,)))
            self.assertIs(holds, size <= 12)

    def test_front_and_behind_together(self):
        one = (1, ((0, 0),), (0,))
        for front, behind in ((3999, 1), (1, 3999), (2000, 2000), (4000, 1), (1, 4000), (2000, 2001),
                              (3998, 1), (5000, 5000)):
            for times, circle in ((0, ()), (5, (0, 0))):
                value = ((0,) * front, circle, times, (0,) * behind)
                holds = self.check(one, front + behind - 2 + times, value)
                self.assertIs(holds, front + behind <= 4000)

    def test_right_ones_with_one_spot_changed(self):
        for one in KNOWN_WEBS:
            for number in (7, 2001, 10 ** 18):
                value = tour(one, number)
                if value is None:
                    continue
                front, circle, times, behind = value
                for place in range(min(len(front), 20)):
                    for spot in range(one[0]):
                        changed = front[:place] + (spot,) + front[place + 1:]
                        self.check(one, number, (changed, circle, times, behind))
                for place in range(len(circle)):
                    for spot in range(one[0]):
                        changed = circle[:place] + (spot,) + circle[place + 1:]
                        self.check(one, number, (front, changed, times, behind))
                for place in range(min(len(behind), 20)):
                    for spot in range(one[0]):
                        changed = behind[:place] + (spot,) + behind[place + 1:]
                        self.check(one, number, (front, circle, times, changed))


def leads_by(one, start, most):
    """For each spot the set of lengths of ways, of one step or more, to it, up to most."""
    lengths = {spot: set() for spot in range(one[0])}
    front = {start}
    for size in range(1, most + 1):
        front = {b for a, b in one[1] if a in front}
        for spot in front:
            lengths[spot].add(size)
    return lengths


def plain_useful(one):
    """The spots that stand on some walk to an end."""
    ways = {spot: leads_by(one, spot, one[0]) for spot in range(one[0])}
    return {spot for spot in range(one[0])
            if (spot == 0 or ways[0][spot]) and
            (spot in one[2] or any(ways[spot][end] for end in one[2]))}


def plain_knots(one):
    ways = {spot: leads_by(one, spot, 4 * one[0]) for spot in range(one[0])}
    found = set()
    for spot in plain_useful(one):
        if ways[spot][spot]:
            spots = tuple(sorted(other for other in range(one[0])
                                 if ways[spot][other] and ways[other][spot]))
            found.add((spots, gcd(*ways[spot][spot])))
    return tuple(sorted(found))


class Knots(Case):
    def test_examples(self):
        self.assertEqual(knots(W), (((0, 1, 2), 1),))

    def test_against_all_ways(self):
        for one in WEBS + random_webs(37, 240):
            self.assert_same(self.quick(knots, one), plain_knots(one))

    def test_known(self):
        self.assertEqual(knots((1, ((0, 0),), (0,))), (((0,), 1),))
        self.assertEqual(knots((1, ((0, 0),), ())), ())
        self.assertEqual(knots((2, ((0, 1), (1, 1)), (0,))), ())
        self.assertEqual(knots((2, ((0, 1), (1, 1)), (1,))), (((1,), 1),))
        self.assertEqual(knots(web(12, ring(0, 12), (5,))), ((tuple(range(12)), 12),))
        self.assertEqual(knots(web(12, ring(0, 12) + [(3, 0)], (5,))), ((tuple(range(12)), 4),))
        self.assertEqual(knots(web(7, ring(0, 3) + ring(3, 4) + [(2, 3)], (3,))),
                         (((0, 1, 2), 3), ((3, 4, 5, 6), 4)))
        self.assertEqual(knots(web(7, ring(0, 3) + ring(3, 4) + [(3, 2)], (0,))), (((0, 1, 2), 3),))

    def test_by_name(self):
        self.by_name(knots, (((0, 1, 2), 1),), web=W)


class Bare(Case):
    def test_example(self):
        self.assertEqual(bare((4, ((0, 1), (0, 3), (1, 2), (2, 1)), (2,))),
                         (3, ((0, 1), (1, 2), (2, 1)), (2,)))

    def test_against_all_ways(self):
        for one in WEBS + random_webs(38, 240):
            kept = sorted(plain_useful(one) | {0})
            wanted = (len(kept),
                      tuple(sorted((kept.index(a), kept.index(b)) for a, b in one[1]
                                   if a in kept and b in kept)),
                      tuple(kept.index(end) for end in one[2] if end in kept))
            found = self.quick(bare, one)
            self.assert_same(found, wanted)
            self.assertIsNone(web_error(found))
            self.assertEqual(walked(found), walked(one))
            self.assert_same(bare(found), found)

    def test_known(self):
        self.assertEqual(bare((3, ((0, 0), (0, 1), (1, 2)), ())), (1, ((0, 0),), ()))
        self.assertEqual(bare((3, ((0, 1), (1, 2), (2, 0)), ())), (1, (), ()))
        self.assertEqual(bare((3, ((1, 2),), (0, 2))), (1, (), (0,)))
        self.assertEqual(bare((3, ((1, 2),), (2,))), (1, (), ()))
        self.assertEqual(bare((5, ((0, 4), (4, 2)), (2, 3))), (3, ((0, 2), (2, 1)), (1,)))

    def test_by_name(self):
        self.by_name(bare, (3, ((0, 1), (1, 2), (2, 1)), (2,)),
                     web=(4, ((0, 1), (0, 3), (1, 2), (2, 1)), (2,)))


class Lasso(Case):
    def check(self, table):
        head, turn = plain_least(table)
        many = len(head) + len(turn)
        found = self.quick(lasso, table)
        steps = tuple([(k, k + 1) for k in range(many - 1)] + [(many - 1, len(head))])
        ends = tuple(k for k, mark in enumerate(head + turn) if mark == "1")
        self.assert_same(found, (many, steps, ends))
        self.assertIsNone(web_error(found))
        self.assertEqual(walked(found), (head, turn))

    def test_examples(self):
        self.assertEqual(lasso(("0", "01")), (3, ((0, 1), (1, 2), (2, 1)), (2,)))
        self.assertEqual(lasso(("", "1100")), (4, ((0, 1), (1, 2), (2, 3), (3, 0)), (0, 1)))

    def test_small_tables(self):
        for table in small_tables(4, 4):
            self.check(table)

    def test_other_forms(self):
        for table in least_tables(3, 3):
            for more, times in ((0, 5), (3, 1), (40, 7), (4000, 1), (2, 1000)):
                self.check(longer(table, more, times))

    def test_twelve_spots_and_more(self):
        for head in range(14):
            for turn in range(1, 15):
                for table in ((("0" * head)[:-1] + "1" * min(head, 1), prime_turn(turn)[::-1]),
                              ("1" * head, "0" * (turn - 1) + "1")):
                    size = sum(map(len, plain_least(table)))
                    if size <= 12:
                        self.check(table)
                        continue
                    for kind in (TooGreat, RoundError, ValueError):
                        with self.assertRaises(kind):
                            lasso(table)

    def test_the_least_table_counts(self):
        for table in least_tables(2, 3):
            self.check(longer(table, 11, 12))
        with self.assertRaises(TooGreat):
            lasso(("0" * 12, "1"))
        with self.assertRaises(TooGreat):
            lasso(("", "1" + "0" * 12))
        self.check(("0" * 11, "1"))
        self.check(("", "1" + "0" * 11))
        self.check(("0" * 5000, "0" * 5000))

    def test_by_name(self):
        self.by_name(lasso, (3, ((0, 1), (1, 2), (2, 1)), (2,)), table=("0", "01"))
        with self.assertRaises(TooGreat):
            lasso(table=("0" * 12, "1"))


def greatest_multiple(total):
    """The greatest least common multiple of numbers from 1 on that come to total together."""
    best = {(total, 1, 1)}
    found = 1
    while best:
        best = {(left - k, k, lcm(multiple, k)) for left, least, multiple in best
                for k in range(least, left + 1)}
        found = max([found] + [multiple for left, _, multiple in best])
    return found


class Greatest(Case):
    def test_heads(self):
        for many in range(1, 13):
            size, one = self.quick(web_head, many)
            self.assert_same(size, (many - 1) ** 2 + 1)
            self.assertIsNone(web_error(one))
            self.assertEqual(one[0], many)
            self.assertEqual(len(walked(one)[0]), size)
        self.assertEqual(web_head(3)[0], 5)

    def test_turns(self):
        for many in range(1, 13):
            size, one = self.quick(web_turn, many)
            self.assert_same(size, max(many, greatest_multiple(many - 1)))
            self.assertIsNone(web_error(one))
            self.assertEqual(one[0], many)
            self.assertEqual(len(walked(one)[1]), size)
        self.assertEqual([web_turn(k)[0] for k in (1, 2, 3, 4, 5, 6, 8, 11)],
                         [1, 2, 3, 4, 5, 6, 12, 30])

    def test_no_web_goes_beyond(self):
        for many in (1, 2, 3):
            pairs = list(itertools.product(range(many), repeat=2))
            heads, turns = [], []
            for chosen in itertools.product((0, 1), repeat=len(pairs)):
                steps = tuple(pair for pair, keep in zip(pairs, chosen) if keep)
                for ends in itertools.product((0, 1), repeat=many):
                    one = (many, steps, tuple(k for k in range(many) if ends[k]))
                    head, turn = walked(one)
                    heads.append(len(head))
                    turns.append(len(turn))
            self.assertEqual(max(heads), web_head(many)[0])
            self.assertEqual(max(turns), web_turn(many)[0])

    def test_by_name(self):
        self.by_name(web_head, web_head(4), many=4)
        self.by_name(web_turn, web_turn(8), many=8)


if __name__ == "__main__":
    unittest.main()
