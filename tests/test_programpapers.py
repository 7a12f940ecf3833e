import random
import unittest

from leastmakers.programpapers import way_round, way_round_holds
from leastmakers.programs import answer, stands
from programforms import (
    KNOWN_PROGRAMS, P, Q, comes_round, plain_walk, plain_way_round_holds, random_programs, size_of)
from reckoning import VALUES, Case

PROGRAMS = KNOWN_PROGRAMS + random_programs(95, 120)
STAYS = (("rest", 2, (0, 0)),)
GROWS = (("rest", 2, (1, 1)), ("add", 1, 1))
AGAIN = (("take", 4, 1, 1), ("add", 1, 0))


def plain_fits(program, number, value):
    """Whether value is a way round, also where it begins far out."""
    if type(value) is not tuple or [type(item) for item in value] != [int, int]:
        return False
    first, more = value
    if first < 0 or not 1 <= more <= 10 ** 5:
        return False
    return comes_round(program, *stands(program, number, first), more)


class WayRound(Case):
    def check(self, program, number, never):
        found = self.quick(way_round, program, number)
        self.assertEqual(found is not None, never)
        if never:
            self.assertTrue(plain_fits(program, number, found), (program, number, found))
            self.assert_same(way_round_holds(program, number, found), True)
        return found

    def test_examples(self):
        self.assertEqual([way_round_holds(Q, 1, (1, 1)), way_round_holds(Q, 2, (0, 1)),
                          way_round_holds(Q, 1, (0, 1)), way_round(Q, 3)], [True, True, False, None])

    def test_small_numbers(self):
        for program in PROGRAMS:
            for number in list(range(25)) + [60, 143, 144, 145, 300]:
                never = plain_walk(program, number)[0] == "never"
                found = self.check(program, number, never)
                if never:
                    self.assertTrue(plain_way_round_holds(program, number, found))

    def test_great_numbers(self):
        picker = random.Random(96)
        for program in PROGRAMS:
            head, turn = size_of(program)
            for number in (10 ** 18, 10 ** 18 - 1, picker.randint(10 ** 4, 10 ** 18)):
                near = head + (number - head) % turn
                self.check(program, number, plain_walk(program, near)[0] == "never")

    def test_each_kind(self):
        for number in (0, 1, 2, 7, 10 ** 18):
            self.check(STAYS, number, True)
            self.check(GROWS, number, True)
            self.check(AGAIN, number, True)
            self.check((("end", "yes"),), number, False)
            self.check(P, number, False)
            self.check((("take", 1, 0, 0),), number, True)

    def test_by_name(self):
        self.by_name(way_round, way_round(Q, 1), program=Q, number=1)
        self.by_name(way_round, None, program=P, number=1)
        self.by_name(way_round_holds, True, program=Q, number=1, value=(1, 1))
        self.by_name(way_round_holds, False, program=Q, number=1, value=(0, 1))


class WayRoundHolds(Case):
    def check(self, program, number, value):
        wanted = plain_way_round_holds(program, number, value)
        self.check_holds(way_round_holds, wanted, program, number, value)
        return wanted

    def test_all_small_pairs(self):
        found = {True: 0, False: 0}
        for program in KNOWN_PROGRAMS + random_programs(97, 50):
            for number in (0, 1, 2, 7, 23):
                for first in (0, 1, 2, 3, 8, 40):
                    for more in range(0, 33):
                        found[self.check(program, number, (first, more))] += 1
        self.assertGreater(min(found.values()), 1000)

    def test_other_values(self):
        for value in VALUES + ([1, 1], (1,), (1, 1, 1), {1: 1}, "11", ((1, 1),), (1, "1"), ("1", 1), (1, None),
                               (None, 1), (1, (1,)), ([1], 1), (1, 0), (1, -1), (-1, 1), (1, 10 ** 39),
                               (1, -10 ** 39), (-10 ** 39, 1), (True, 1), (1, True), (False, 1)):
            self.assertFalse(self.check(Q, 1, value), value)
            # Where it stays at once each pair of numbers is one.
            self.check(STAYS, 1, value)
        self.assertTrue(self.check(Q, 1, (1, 1)))
        self.assertTrue(self.check(STAYS, 1, (0, 1)))
        self.assertFalse(self.check(STAYS, 1, (False, 1)))
        self.assertFalse(self.check(STAYS, 1, (0, True)))

    def test_more_at_its_bounds(self):
        for program, fits in ((STAYS, True), (Q, True), (GROWS, True), (AGAIN, True), (P, False)):
            for more in (99999, 100000, 100001, 10 ** 6, 10 ** 39):
                wanted = more <= 10 ** 5 and plain_way_round_holds(program, 2, (4, more))
                self.assert_same(self.quick(way_round_holds, program, 2, (4, more)), wanted)
            self.assert_same(way_round_holds(program, 2, (4, 0)), False)
            self.assert_same(way_round_holds(program, 2, (4, 10 ** 5)), fits)
        self.assertIs(way_round_holds(STAYS, 2, (4, 100001)), False)

    def test_far_firsts(self):
        for first in (10 ** 18, 10 ** 39):
            self.assert_same(self.quick(way_round_holds, STAYS, 5, (first, 1)), True)
            self.assert_same(self.quick(way_round_holds, Q, 1, (first, 10)), True)
            self.assert_same(self.quick(way_round_holds, GROWS, 1, (first, 1)), False)
            self.assert_same(self.quick(way_round_holds, GROWS, 1, (first, 2)), True)
            self.assert_same(self.quick(way_round_holds, P, 1, (first, 1)), False)
            self.assert_same(self.quick(way_round_holds, ((("take", 1, 0, 0),)), 10 ** 18, (first, 1)), True)
        self.assert_same(way_round_holds((("take", 1, 0, 0),), 10 ** 18, (10 ** 18 - 1, 1)), False)

    def test_end_places(self):
        for more in (1, 2, 3):
            self.assertFalse(self.check((("end", "yes"),), 5, (0, more)))
            self.assertFalse(self.check(P, 7, (5, more)))
            self.assertFalse(self.check(P, 7, (4, more)))
            self.assertFalse(self.check((("take", 1, 0, 1), ("end", "no")), 3, (4, more)))

    def test_a_greater_counter_by_no_multiple(self):
        self.assertFalse(self.check(GROWS, 0, (1, 1)))
        self.assertTrue(self.check(GROWS, 0, (1, 2)))
        self.assertFalse(self.check(GROWS, 0, (1, 3)))
        self.assertTrue(self.check(GROWS, 0, (2, 6)))
        self.assertFalse(self.check(GROWS, 0, (0, 2)))
        # The round number counts rests that are never come to.
        beside = (("add", 2, 0), ("rest", 3, (0, 1, 2)), ("rest", 2, (1, 1)))
        self.assertFalse(self.check(beside, 0, (0, 1)))
        self.assertFalse(self.check(beside, 0, (0, 2)))
        self.assertTrue(self.check(beside, 0, (0, 3)))
        self.assertFalse(self.check(beside, 0, (5, 4)))
        self.assertTrue(self.check(beside, 0, (5, 6)))

    def test_a_refused_take_between(self):
        # From 0 to 3 takes are refused while it grows, then it comes round.
        self.assertFalse(self.check(AGAIN, 0, (0, 2)))
        self.assertFalse(self.check(AGAIN, 0, (0, 4)))
        self.assertFalse(self.check(AGAIN, 0, (1, 2)))
        self.assertFalse(self.check(AGAIN, 0, (0, 8)))
        self.assertTrue(self.check(AGAIN, 0, (2, 8)))
        self.assertTrue(self.check(AGAIN, 0, (7, 16)))
        growing = (("take", 1, 1, 2), ("add", 4, 0), ("add", 1, 0))
        self.assertFalse(self.check(growing, 0, (0, 2)))
        self.assertTrue(self.check(growing, 0, (2, 2)))
        self.assertFalse(self.check(growing, 0, (0, 4)))
        self.assertTrue(self.check(growing, 1, (0, 2)))
        # The take is refused first, or last.
        self.assertFalse(self.check((("take", 4, 0, 1), ("add", 4, 2), ("take", 1, 0, 0)), 0, (0, 3)))
        last = (("add", 4, 1), ("take", 4, 1, 0))
        self.assertFalse(self.check(last, 1, (0, 2)))
        self.assertTrue(self.check(last, 1, (0, 3)))

    def test_a_less_counter(self):
        program = (("take", 2, 0, 1), ("add", 1, 1))
        self.assertFalse(self.check(program, 9, (0, 1)))
        self.assertFalse(self.check(program, 9, (0, 2)))
        self.assertTrue(self.check(program, 9, (5, 1)))
        self.assertFalse(self.check(program, 9, (4, 1)))

    def test_right_ones_changed_in_one_thing(self):
        for program in PROGRAMS:
            for number in (0, 3, 50):
                value = way_round(program, number)
                if value is None:
                    self.assertEqual(answer(program, number) == "never", False)
                    continue
                first, more = value
                self.assertTrue(self.check(program, number, value))
                for changed in ((first + 1, more), (first - 1, more), (first, more + 1), (first, more - 1),
                                (first, 2 * more), (first + more, more), [first, more], (more, first),
                                (first, str(more)), (first, more, 0)):
                    self.check(program, number, changed)
                self.check(program, number + 1, value)


if __name__ == "__main__":
    unittest.main()
