"""Programs that the tests share, and plain walks of them, step by step."""

import random
from math import lcm

P = (("take", 2, 0, 1), ("take", 1, 2, 3), ("end", "no"), ("end", "yes"))
Q = (("rest", 3, (1, 2, 0)), ("end", "yes"), ("add", 3, 2))
U = (("take", 3, 1, 2), ("end", "yes"), ("end", "no"))

KNOWN_PROGRAMS = [
    P, Q, U, (("end", "yes"),), (("end", "no"),), (("add", 1, 0),), (("add", 4, 0),), (("take", 1, 0, 0),),
    (("take", 4, 0, 0),), (("rest", 2, (0, 0)),), (("rest", 6, (0,) * 6),),
    # Takes are refused again and again.
    (("take", 4, 0, 1), ("add", 1, 0)), (("take", 3, 0, 1), ("add", 4, 0), ("end", "no")),
    (("take", 4, 1, 2), ("take", 3, 0, 2), ("add", 2, 3), ("add", 3, 0)),
    (("take", 1, 0, 1), ("add", 4, 2), ("take", 3, 0, 0), ("end", "yes")),
    # Counters grow, from the start or from a number on.
    (("take", 4, 1, 2), ("add", 4, 3), ("end", "no"), ("add", 1, 0)),
    (("rest", 2, (1, 2)), ("add", 1, 0), ("add", 3, 0)),
    (("take", 4, 1, 4), ("take", 4, 2, 4), ("take", 4, 3, 4), ("add", 3, 3), ("end", "yes")),
    # It falls by 1 in five steps, and by takes of unlike numbers.
    (("add", 4, 1), ("add", 4, 2), ("take", 4, 3, 5), ("take", 4, 4, 5), ("take", 1, 0, 5), ("end", "no")),
    (("take", 4, 1, 5), ("take", 4, 2, 5), ("take", 4, 3, 4), ("take", 3, 0, 4), ("end", "yes"),
     ("end", "no")),
    (("take", 1, 1, 3), ("rest", 2, (0, 2)), ("take", 2, 0, 4), ("end", "yes"), ("end", "no")),
    # Programs that come round only far out.
    (("rest", 5, (5, 2, 4, 4, 3)), ("take", 4, 3, 1), ("take", 3, 2, 4), ("take", 4, 1, 5),
     ("take", 4, 5, 5), ("take", 3, 4, 2)),
    (("take", 4, 0, 5), ("take", 4, 2, 4), ("take", 3, 3, 1), ("take", 4, 1, 4),
     ("rest", 5, (2, 2, 5, 2, 5)), ("take", 3, 5, 4)),
    (("take", 3, 5, 4), ("rest", 6, (0, 3, 4, 1, 3, 4)), ("take", 4, 3, 5), ("take", 3, 4, 2),
     ("take", 4, 2, 3), ("take", 4, 0, 0)),
    (("rest", 5, (5, 2, 4, 4, 3)), ("take", 4, 3, 1), ("take", 3, 2, 4), ("take", 4, 1, 5),
     ("take", 4, 5, 0), ("end", "yes")),
    (("rest", 6, (1, 2, 3, 4, 5, 0)), ("take", 1, 0, 5), ("take", 2, 0, 5), ("take", 3, 0, 5),
     ("take", 4, 0, 5), ("end", "no")),
    (("rest", 6, (1, 2, 3, 4, 5, 1)), ("take", 3, 1, 5), ("take", 4, 2, 4), ("take", 4, 3, 5),
     ("end", "yes"), ("end", "no")),
    # Places that are never come to, with rests that count all the same.
    (("end", "yes"), ("rest", 5, (0, 1, 2, 0, 1)), ("take", 3, 2, 0)),
    (("take", 2, 0, 1), ("end", "no"), ("rest", 3, (2, 2, 2)), ("take", 4, 3, 2)),
]


def round_of_rests(program):
    return lcm(*[step[1] for step in program if step[0] == "rest"])


def random_program(picker, ends):
    """A program of 1 to 6 places; ends is how likely a step is an end."""
    many = picker.randint(1, 6)
    rests = picker.choice(((2,), (3,), (4,), (5,), (2, 3, 6), (2, 4)))
    steps = []
    for _ in range(many):
        places = [picker.randrange(many) for _ in range(6)]
        kind = picker.random()
        if kind < ends:
            steps.append(("end", picker.choice(("yes", "no"))))
        elif kind < ends + 0.2:
            steps.append(("add", picker.randint(1, 4), places[0]))
        elif kind < 0.75:
            steps.append(("take", picker.randint(1, 4), places[0], places[1]))
        else:
            size = picker.choice(rests)
            steps.append(("rest", size, tuple(places[:size])))
    return tuple(steps)


def random_programs(seed, times):
    picker = random.Random(seed)
    return [random_program(picker, picker.choice((0.05, 0.2, 0.35))) for _ in range(times)]


def one_step(program, place, counter):
    """Where it stands behind one step, and whether a take was refused."""
    step = program[place]
    if step[0] == "end":
        return place, counter, False
    if step[0] == "add":
        return step[2], counter + step[1], False
    if step[0] == "rest":
        return step[2][counter % step[1]], counter, False
    if counter >= step[1]:
        return step[2], counter - step[1], False
    return step[3], counter, True


def plain_stands(program, number, count):
    place, counter = 0, number
    for _ in range(count):
        place, counter, _ = one_step(program, place, counter)
    return place, counter


def plain_walk(program, number, place=0):
    """The word with which it ends or never, behind how many steps, and the places on the way."""
    counter, steps, seen, places = number, 0, set(), set()
    while True:
        places.add(place)
        if program[place][0] == "end":
            return program[place][1], steps, places
        # A round that falls never rises so far.
        if (place, counter) in seen or counter > number + 1000:
            return "never", None, places
        seen.add((place, counter))
        place, counter, _ = one_step(program, place, counter)
        steps += 1


def plain_falls(program):
    turn = round_of_rests(program)
    found = set()
    for start in range(len(program)):
        for rest in range(turn):
            place, change, seen = start, 0, {}
            while program[place][0] != "end" and (place, (rest + change) % turn) not in seen:
                seen[(place, (rest + change) % turn)] = change
                step = program[place]
                if step[0] == "rest":
                    place = step[2][(rest + change) % step[1]]
                else:
                    change += step[1] if step[0] == "add" else -step[1]
                    place = step[2]
            if program[place][0] != "end":
                fall = seen[(place, (rest + change) % turn)] - change
                if fall > 0:
                    found.add(fall)
    return tuple(sorted(found))


def size_of(program):
    """The numbers H and T that point [D3] tells."""
    turn = round_of_rests(program)
    return 4 * turn * len(program), lcm(turn, *plain_falls(program))


def plain_way_round_holds(program, number, value):
    """Whether value is a way round, by plain steps; first is not great."""
    if type(value) is not tuple or len(value) != 2:
        return False
    first, more = value
    if type(first) is not int or type(more) is not int or first < 0 or not 1 <= more <= 10 ** 5:
        return False
    place, counter = plain_stands(program, number, first)
    return comes_round(program, place, counter, more)


def comes_round(program, place, counter, more):
    if program[place][0] == "end":
        return False
    there, now, refused = place, counter, False
    for _ in range(more):
        there, now, is_refused = one_step(program, there, now)
        refused = refused or is_refused
    if there != place:
        return False
    if now == counter:
        return True
    return now > counter and (now - counter) % round_of_rests(program) == 0 and not refused
