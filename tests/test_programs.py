import itertools
import random
import unittest

from leastmakers.programs import (
    answer, ends, ends_at, ends_parted, falls, length, met, program_error, same_ends, stands)
from programforms import (
    KNOWN_PROGRAMS, P, Q, U, one_step, plain_falls, plain_stands, plain_walk, random_program,
    random_programs, round_of_rests, size_of)
from reckoning import VALUES, Case, from_numbers, plain_least, sign

WORDS = ("yes", "no", "never")
PROGRAMS = KNOWN_PROGRAMS + random_programs(81, 120)

# What is no number of an item of a step, whatever its bounds are.
NO_NUMBERS = (None, True, False, -1, 7, 10 ** 39, -10 ** 39, "", "1", "yes", (), (1,), [], [1], {}, {1: 1})


def near_numbers(program):
    """Numbers that are small, and about the places from which the answers come round."""
    head, turn = size_of(program)
    ends_of = [head, turn, head + turn, head + 2 * turn]
    return sorted(set(list(range(12)) + [n + k for n in ends_of for k in (-1, 0, 1)]))


def near_of(program, number):
    """A number that is not great and is answered likewise, and how many turns less it is."""
    head, turn = size_of(program)
    rounds = max(0, (number - head) // turn)
    return number - rounds * turn, rounds


class ProgramError(Case):
    def check(self, value, pair):
        self.check_value(program_error, value, pair)

    def test_programs(self):
        for program in PROGRAMS + random_programs(82, 200):
            self.check(program, None)
        for many in range(1, 7):
            for place in range(many):
                for count in range(1, 5):
                    self.check((("end", "yes"),) * (many - 1) + (("add", count, place),), None)
                    for other in range(many):
                        self.check((("take", count, place, other),) * many, None)
                for size in range(2, 7):
                    self.check((("rest", size, (place,) * size),) * many, None)

    def test_how_many(self):
        for many in range(1, 7):
            self.check((("end", "yes"),) * many, None)
        for many in (0, 7, 8, 20):
            self.check((("end", "yes"),) * many, (None, "program"))
            self.check((None,) * many, (None, "program"))
        for value in VALUES:
            if not isinstance(value, tuple) or value == ():
                self.check(value, (None, "program"))
        self.check([("end", "yes")], (None, "program"))
        self.check({("end", "yes"): 1}, (None, "program"))

    def wrong_steps(self, many):
        """What is no step of a program of so many places."""
        places = NO_NUMBERS + (many,)
        steps = [None, True, 0, "", "add", (), ("add",), ("take",), ("rest",), ("end",), ("",), (None,), (True,)]
        steps += [("Add", 1, 0), ("adds", 1, 0), (1, 1, 0), (["add"], 1, 0), (("add",), 1, 0), ("yes",),
                  (None, 1, 0), ("never",), ("go", 0), ("add", 1), ("add", 1, 0, 0), ["add", 1, 0],
                  ("take", 1, 0), ("take", 1, 0, 0, 0), ["take", 1, 0, 0], ("rest", 2), ["rest", 2, (0, 0)],
                  ("rest", 2, (0, 0), 0), ("rest", 2, 0, 0), ["end", "yes"], ("end", "yes", 0), ("end",),
                  {"end": "yes"}, "end", ("end", ("yes",)), ("stop", "yes"), ("End", "no"), (None, "yes"),
                  ("", "no"), ("yes", "yes"), ("rest", "yes"), ("rests", 2, (0, 0)), ("takes", 1, 0, 0)]
        steps += [("add", count, 0) for count in NO_NUMBERS + (0, 5, 6)]
        steps += [("add", 1, place) for place in places]
        steps += [("take", count, 0, 0) for count in NO_NUMBERS + (0, 5, 6)]
        steps += [("take", 1, place, 0) for place in places]
        steps += [("take", 1, 0, place) for place in places]
        for size in NO_NUMBERS + (0, 1, 7, 8):
            steps += [("rest", size, (0, 0)), ("rest", size, (0,) * 7), ("rest", size, ())]
        steps += [("rest", size, (0,) * size) for size in (0, 1, 7, 8)] + [("rest", True, (0,))]
        steps += [("rest", size, (0,) * (size + k)) for size in range(2, 7) for k in (-1, 1)]
        steps += [("rest", 2, places) for places in (None, True, 0, "", "00", [0, 0], {0: 0, 1: 0}, (), ((0, 0),))]
        steps += [("rest", 2, (place, 0)) for place in places]
        steps += [("rest", 2, (0, place)) for place in places]
        steps += [("end", word) for word in (None, True, 0, "", "never", "Yes", "yes ", ["yes"], ("no",), {})]
        return steps

    def test_wrong_steps(self):
        for many in (1, 2, 6):
            for wrong in self.wrong_steps(many):
                self.check((wrong,) + (("end", "yes"),) * (many - 1), (0, "step"))

    def test_the_first_wrong_step(self):
        picker = random.Random(83)
        for many in range(1, 7):
            wrongs = self.wrong_steps(many)
            for place in range(many):
                for _ in range(8):
                    rest = [picker.choice((("add", 2, 0), picker.choice(wrongs))) for _ in range(many - place - 1)]
                    value = (("take", 1, 0, 0),) * place + (picker.choice(wrongs),) + tuple(rest)
                    self.check(value, (place, "step"))

    def test_places_are_those_of_the_program(self):
        self.check((("add", 1, 1),), (0, "step"))
        self.check((("add", 1, 1), ("end", "no")), None)
        self.check((("end", "no"), ("take", 1, 0, 2)), (1, "step"))
        self.check((("end", "no"), ("rest", 3, (0, 1, 2))), (1, "step"))
        self.check((("end", "no"), ("rest", 3, (0, 1, 2)), ("end", "no")), None)

    def test_rests(self):
        for sizes in itertools.product(range(2, 7), repeat=3):
            value = tuple(("rest", size, (0,) * size) for size in sizes)
            pair = None if round_of_rests(value) <= 6 else (None, "rests")
            self.check(value, pair)
            self.check(value + (("end", "yes"),), pair)
            # A step that is none is told ahead of the rests.
            self.check(value + (("end", "never"),), (3, "step"))
        self.check((("rest", 4, (0,) * 4), ("rest", 6, (0,) * 6)), (None, "rests"))
        self.check((("end", "no"), ("rest", 2, (0, 0)), ("rest", 5, (0,) * 5)), (None, "rests"))
        self.check((("rest", 2, (0, 0)), ("rest", 3, (0,) * 3), ("rest", 6, (0,) * 6)), None)
        self.check((("rest", 2, (0, 0)), ("rest", 4, (0,) * 4)), None)

    def test_by_name(self):
        self.by_name(program_error, None, value=P)
        self.by_name(program_error, (0, "step"), value=(("add", 1, 1),))


class Answer(Case):
    def test_examples(self):
        self.assertEqual([ends(P), falls(P), answer(P, 10 ** 18 - 1), length(P, 7), stands(P, 7, 3)],
                         [(("", "10"), ("", "01"), ("", "0")), (2,), "no", 5, (0, 1)])
        self.assertEqual([ends(Q), falls(Q)], [(("", "100"), ("", "0"), ("", "011")), ()])
        self.assertEqual(ends(U), (("000", "1"), ("111", "0"), ("", "0")))
        self.assertEqual(program_error((("rest", 4, (0,) * 4), ("rest", 6, (0,) * 6))), (None, "rests"))
        self.assertEqual(program_error((("add", 1, 1),)), (0, "step"))
        self.assertEqual([met(U), ends_parted(P, U)], [(0, 1, 2), 0])

    def test_near_numbers(self):
        for program in PROGRAMS:
            for number in near_numbers(program):
                word, steps, _ = plain_walk(program, number)
                self.assert_same(self.quick(answer, program, number), word)
                self.assert_same(self.quick(length, program, number), steps)

    def test_all_small_numbers(self):
        for program in PROGRAMS:
            for number in range(0, 200, 3):
                word, steps, _ = plain_walk(program, number)
                self.assert_same(answer(program, number), word)
                self.assert_same(length(program, number), steps)

    def test_great_numbers(self):
        picker = random.Random(84)
        for program in PROGRAMS:
            turn = size_of(program)[1]
            for number in (10 ** 18, 10 ** 18 - 1, picker.randint(10 ** 5, 10 ** 18), 10 ** 6 + 1):
                near, rounds = near_of(program, number)
                word, steps, _ = plain_walk(program, near)
                self.assert_same(self.quick(answer, program, number), word)
                if steps is not None:
                    more = plain_walk(program, near + turn)[1] - steps
                    steps += rounds * more
                self.assert_same(self.quick(length, program, number), steps)

    def test_lengths_grow_evenly(self):
        for program in PROGRAMS:
            head, turn = size_of(program)
            for number in (head, head + 1, head + turn - 1):
                lengths = [length(program, number + k * turn) for k in range(3)]
                if lengths[0] is not None:
                    self.assertEqual(lengths[2] - lengths[1], lengths[1] - lengths[0])

    def test_end_at_once(self):
        for number in (0, 1, 10 ** 18):
            self.assert_same([answer((("end", "yes"),), number), length((("end", "no"),), number)], ["yes", 0])
            self.assert_same(stands((("end", "no"),), number, 10 ** 18), (0, number))

    def test_by_name(self):
        self.by_name(answer, "no", program=P, number=7)
        self.by_name(length, 5, program=P, number=7)
        self.by_name(length, None, program=Q, number=1)


class Stands(Case):
    def test_small_counts(self):
        for program in PROGRAMS:
            for number in (0, 1, 2, 3, 5, 11, 40, 157):
                place, counter = 0, number
                for count in range(90):
                    self.assert_same(stands(program, number, count), (place, counter))
                    place, counter, _ = one_step(program, place, counter)

    def test_greater_counts(self):
        picker = random.Random(85)
        for program in PROGRAMS:
            for number in (0, 3, picker.randint(0, 100), picker.randint(100, 1000)):
                for count in (picker.randint(90, 900), picker.randint(900, 3000)):
                    self.assert_same(self.quick(stands, program, number, count),
                                     plain_stands(program, number, count))

    def test_great_counts_go_step_by_step(self):
        picker = random.Random(86)
        for program in PROGRAMS:
            for number in (0, 5, picker.randint(0, 200), 10 ** 18 - picker.randint(0, 99), 10 ** 18):
                for count in (picker.randint(10 ** 4, 10 ** 18 - 3), 10 ** 18 - 2):
                    place, counter = self.quick(stands, program, number, count)
                    for more in (1, 2):
                        place, counter, _ = one_step(program, place, counter)
                        self.assert_same(stands(program, number, count + more), (place, counter))

    def test_about_the_end(self):
        for program in PROGRAMS:
            for number in (0, 17, 10 ** 18 - 7, 10 ** 18):
                steps = length(program, number)
                if steps is None:
                    continue
                place, counter = stands(program, number, steps)
                self.assertEqual(program[place][0], "end")
                self.assert_same(stands(program, number, steps + 1), (place, counter))
                self.assert_same(stands(program, number, steps + 10 ** 18), (place, counter))
                if steps > 0:
                    ahead = stands(program, number, steps - 1)
                    self.assertNotEqual(program[ahead[0]][0], "end")
                    self.assertEqual(one_step(program, *ahead)[:2], (place, counter))

    def test_known(self):
        self.assert_same(stands((("add", 4, 0),), 1, 10 ** 18), (0, 4 * 10 ** 18 + 1))
        self.assert_same(stands((("take", 1, 0, 0),), 10 ** 18, 10 ** 18 - 1), (0, 1))
        self.assert_same(stands((("take", 1, 0, 0),), 5, 10 ** 18), (0, 0))
        self.assert_same(stands(P, 10 ** 18, 5 * 10 ** 17), (0, 0))
        self.assert_same(stands(P, 10 ** 18, 5 * 10 ** 17 + 1), (1, 0))
        self.assert_same(stands(P, 10 ** 18, 5 * 10 ** 17 + 2), (3, 0))
        self.assert_same(stands(Q, 1, 10 ** 18), (2, 3 * 10 ** 18 - 2))
        self.assert_same(stands(Q, 2, 10 ** 18), (0, 2))

    def test_counters_do_not_fall_below_nought(self):
        for program in PROGRAMS:
            for number in (0, 9, 300):
                for count in (50, 10 ** 6, 10 ** 18):
                    self.assertGreaterEqual(stands(program, number, count)[1], 0)

    def test_by_name(self):
        self.by_name(stands, (0, 1), program=P, number=7, count=3)


class Falls(Case):
    def test_against_free_ways(self):
        for program in PROGRAMS + random_programs(87, 200):
            self.assert_same(self.quick(falls, program), plain_falls(program))
            head, turn = size_of(program)
            self.assertLessEqual(head, 144)
            self.assertLessEqual(turn, 2520)

    def test_known(self):
        self.assertEqual(falls((("take", 3, 0, 0),)), (3,))
        self.assertEqual(falls((("add", 3, 0),)), ())
        self.assertEqual(falls((("rest", 4, (0,) * 4),)), ())
        self.assertEqual(falls((("rest", 4, (1,) * 4), ("take", 3, 0, 0))), (12,))
        self.assertEqual(falls((("take", 4, 1, 0), ("add", 1, 0))), (3,))
        self.assertEqual(falls((("end", "no"), ("take", 1, 1, 0), ("take", 4, 2, 0))), (1, 4))

    def test_by_name(self):
        self.by_name(falls, (2,), program=P)


def plain_triple(program, place):
    """The tables of the three words, by walks of all numbers till they come round."""
    head, turn = size_of(program)
    words = [plain_walk(program, number, place)[0] for number in range(head + turn)]
    return tuple(from_numbers({n for n, found in enumerate(words) if found == word}, head, turn)
                 for word in WORDS)


class Ends(Case):
    def test_against_walks(self):
        for program in PROGRAMS:
            if sum(size_of(program)) > 400:
                continue
            wanted = tuple(plain_triple(program, place) for place in range(len(program)))
            self.assert_same(self.quick(ends, program), wanted[0])
            self.assert_same(self.quick(ends_at, program), wanted)

    def test_far_programs(self):
        programs = [program for program in KNOWN_PROGRAMS if sum(size_of(program)) > 400]
        self.assertGreater(len(programs), 2)
        for program in programs:
            head, turn = size_of(program)
            found = self.quick(ends_at, program)
            self.assert_same(self.quick(ends, program), found[0])
            for place in range(len(program)):
                for number in list(range(0, head + 2 * turn, 13)) + [head + turn - 1, head + turn]:
                    word = plain_walk(program, number, place)[0]
                    self.assertEqual("".join(sign(table, number) for table in found[place]),
                                     "".join("1" if word == one else "0" for one in WORDS))

    def test_behind_the_turn(self):
        for program in PROGRAMS:
            head, turn = size_of(program)
            for number in range(head + turn, head + 2 * turn + 3, max(1, turn // 7)):
                word = plain_walk(program, number)[0]
                self.assertEqual(sign(ends(program)[WORDS.index(word)], number), "1")

    def test_triples_go_with_those_that_follow(self):
        for program in PROGRAMS + random_programs(88, 80):
            triples = ends_at(program)
            head, turn = size_of(program)
            for place, step in enumerate(program):
                for number in list(range(20)) + [head, head + turn, head + turn + 1]:
                    there, counter, _ = one_step(program, place, number)
                    for at, table in enumerate(triples[place]):
                        if step[0] == "end":
                            self.assertEqual(sign(table, number), "1" if WORDS[at] == step[1] else "0")
                        else:
                            self.assertEqual(sign(table, number), sign(triples[there][at], counter))

    def test_least_and_apart(self):
        for program in PROGRAMS:
            for triple in ends_at(program):
                for table in triple:
                    self.assertEqual(plain_least(table), table)
                for number in range(30):
                    self.assertEqual(sorted(sign(table, number) for table in triple), ["0", "0", "1"])

    def test_the_program_that_begins_elsewhere(self):
        for program in PROGRAMS[:60]:
            for place in range(len(program)):
                # The same program with places 0 and place changed about.
                other = {0: place, place: 0}
                turned = []
                for at in range(len(program)):
                    step = program[other.get(at, at)]
                    if step[0] == "rest":
                        step = step[:2] + (tuple(other.get(to, to) for to in step[2]),)
                    elif step[0] != "end":
                        step = step[:2] + tuple(other.get(to, to) for to in step[2:])
                    turned.append(step)
                self.assertEqual(ends(tuple(turned)), ends_at(program)[place])

    def test_never_ends(self):
        self.assertEqual(ends((("add", 1, 0),)), (("", "0"), ("", "0"), ("", "1")))
        self.assertEqual(ends((("take", 4, 0, 0),)), (("", "0"), ("", "0"), ("", "1")))
        self.assertEqual(ends((("rest", 6, (0,) * 6),)), (("", "0"), ("", "0"), ("", "1")))
        self.assertEqual(ends((("take", 4, 0, 1), ("add", 1, 0))), (("", "0"), ("", "0"), ("", "1")))
        self.assertEqual(ends((("take", 4, 1, 2), ("add", 4, 1), ("end", "no"))),
                         (("", "0"), ("1111", "0"), ("0000", "1")))

    def test_by_name(self):
        self.by_name(ends, (("000", "1"), ("111", "0"), ("", "0")), program=U)
        self.by_name(ends_at, ends_at(U), program=U)


class Met(Case):
    def plain_met(self, program):
        head, turn = size_of(program)
        places = set()
        for number in range(head + 2 * turn):
            places |= plain_walk(program, number)[2]
        return tuple(sorted(places))

    def test_against_walks(self):
        for program in PROGRAMS + random_programs(89, 120):
            if sum(size_of(program)) <= 300:
                self.assert_same(self.quick(met, program), self.plain_met(program))

    def test_known(self):
        self.assertEqual(met((("end", "yes"), ("end", "no"))), (0,))
        self.assertEqual(met((("take", 1, 1, 1), ("end", "no"), ("end", "yes"))), (0, 1))
        self.assertEqual(met((("add", 1, 1), ("add", 1, 2), ("add", 1, 3), ("add", 1, 0), ("end", "no"))),
                         (0, 1, 2, 3))
        self.assertEqual(met((("add", 2, 1), ("take", 2, 3, 2), ("end", "no"), ("end", "yes"))), (0, 1, 3))
        # Places that only great numbers come to, and places that only 0 comes to.
        self.assertEqual(met((("take", 4, 1, 5), ("take", 4, 2, 5), ("take", 4, 3, 5), ("take", 4, 4, 5),
                              ("add", 1, 4), ("end", "no"))), (0, 1, 2, 3, 4, 5))
        self.assertEqual(met((("take", 1, 0, 1), ("end", "no"), ("end", "no"))), (0, 1))

    def test_steps_at_other_places_do_not_count(self):
        picker = random.Random(90)
        steps = (("end", "yes"), ("end", "no"), ("add", 3, 0), ("take", 2, 0, 0), ("rest", 2, (0, 0)))
        for program in PROGRAMS:
            places = met(program)
            changed = tuple(step if place in places else picker.choice(steps)
                            for place, step in enumerate(program))
            if program_error(changed) is None:
                self.assertEqual(ends(changed), ends(program))

    def test_by_name(self):
        self.by_name(met, (0, 1, 2), program=U)


class Parted(Case):
    def check(self, one, other):
        found = self.quick(ends_parted, one, other)
        (head, turn), (other_head, other_turn) = size_of(one), size_of(other)
        bound = max(head, other_head) + round_bound(turn, other_turn)
        wanted = next((n for n in range(min(bound, 400))
                       if plain_walk(one, n)[0] != plain_walk(other, n)[0]), None)
        if wanted is not None or bound <= 400:
            self.assert_same(found, wanted)
        self.assert_same(ends_parted(other, one), found)
        self.assert_same(self.quick(same_ends, one, other), found is None)
        if found is not None:
            self.assertLess(found, bound)
            self.assertNotEqual(answer(one, found), answer(other, found))
        return found

    def test_pairs(self):
        picker = random.Random(91)
        for _ in range(250):
            self.check(picker.choice(PROGRAMS), picker.choice(PROGRAMS))

    def test_alike_for_long(self):
        picker = random.Random(92)
        late = 0
        for _ in range(400):
            # A chain of takes, then steps of which one is changed.
            many = picker.randint(1, 4)
            chain = [("take", 4, place + 1, 5) for place in range(many)]
            steps = list(random_program(picker, 0.2) + (("end", "no"),) * 6)
            one = chain + [self.within(step) for step in steps[many:5]] + [("end", "no")]
            other = list(one)
            place = picker.randrange(many, 5)
            other[place] = self.within(picker.choice(random_program(picker, 0.2)))
            if program_error(tuple(one)) is None and program_error(tuple(other)) is None:
                found = self.check(tuple(one), tuple(other))
                late += found is not None and found > 11
        self.assertGreater(late, 20)

    def within(self, step):
        """The step with places of a program of six."""
        if step[0] == "end":
            return step
        if step[0] == "rest":
            return step[:2] + (tuple((place * 2 + 1) % 6 for place in step[2]),)
        return step[:2] + tuple((place * 2 + 1) % 6 for place in step[2:])

    def test_known(self):
        chain = tuple(("take", 4, place + 1, 5) for place in range(4)) + (("end", "yes"), ("end", "no"))
        self.assert_same(self.check(chain, (("end", "no"),)), 16)
        self.assert_same(self.check(chain, chain[:3] + (("take", 3, 4, 5),) + chain[4:]), 15)
        falling = tuple(("take", 4, (place + 1) % 4, 5) for place in range(4)) + (("end", "yes"), ("end", "no"))
        self.assert_same(self.check(falling, (("end", "no"),)), None)
        sevens = (("take", 4, 1, 2), ("take", 3, 0, 2), ("end", "no"))
        self.assert_same(self.check(sevens, (("take", 1, 0, 1), ("end", "no"))), None)
        self.assert_same(self.check(sevens, (("take", 4, 1, 2), ("take", 3, 0, 3), ("end", "no"), ("end", "yes"))),
                         4)
        rounds = (("rest", 6, (1, 1, 1, 1, 1, 2)), ("end", "no"), ("end", "yes"))
        self.assert_same(self.check(rounds, (("end", "no"),)), 5)
        self.assert_same(self.check(rounds, (("rest", 3, (1, 1, 2)), ("end", "no"), ("rest", 2, (1, 3)),
                                             ("end", "yes"))), None)

    def test_never_against_a_word(self):
        self.assert_same(self.check((("add", 1, 0),), (("end", "no"),)), 0)
        self.assert_same(self.check((("add", 1, 0),), (("take", 2, 0, 0),)), None)
        stays = (("take", 3, 1, 2), ("add", 1, 1), ("end", "yes"))
        self.assert_same(self.check(stays, (("end", "yes"),)), 3)
        self.assert_same(self.check(stays, (("take", 3, 1, 2), ("take", 1, 0, 1), ("end", "yes"))), 4)

    def test_itself(self):
        for program in PROGRAMS:
            self.assert_same(self.quick(same_ends, program, program), True)
            self.assert_same(self.quick(ends_parted, program, program), None)

    def test_by_name(self):
        self.by_name(same_ends, False, one=P, other=U)
        self.by_name(ends_parted, 0, one=P, other=U)


def round_bound(turn, other):
    shared = turn
    while shared % other:
        shared += turn
    return shared


if __name__ == "__main__":
    unittest.main()
