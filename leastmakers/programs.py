"""Programs with one counter, and the numbers for which they end with yes, with no, or never."""

from leastmakers.bounds import MAX_PLACES, MAX_ROUND, MAX_STEP
from leastmakers.common import is_whole, least_multiple
from leastmakers.tables import parting, table_of

_WORDS = ("yes", "no", "never")
# More steps than any program takes for a number that is told, if it ends.
FAR = 10 ** 50


def program_error(value):
    """The first pair (place, word) that tells why value is no program; None for a program."""
    if not isinstance(value, tuple) or not 1 <= len(value) <= MAX_PLACES:
        return None, "program"
    for place, item in enumerate(value):
        if not _is_step(item, len(value)):
            return place, "step"
    if round_number(value) > MAX_ROUND:
        return None, "rests"
    return None


def _is_step(value, many):
    """Whether value is a step of a program of so many places."""
    if not isinstance(value, tuple) or value == ():
        return False
    word, items = value[0], value[1:]
    if word == "add":
        return _is_count_and_places(items, 2, many)
    if word == "take":
        return _is_count_and_places(items, 3, many)
    if word == "rest":
        return len(items) == 2 and is_whole(items[0], 2, MAX_ROUND) and _are_places(items, many)
    return word == "end" and len(items) == 1 and items[0] in ("yes", "no")


def _is_count_and_places(items, many_items, many):
    if len(items) != many_items or not is_whole(items[0], 1, MAX_STEP):
        return False
    return all([is_whole(item, 0, many - 1) for item in items[1:]])


def _are_places(items, many):
    """Whether the second item is a tuple of as many places as the first one tells."""
    size, places = items
    if not isinstance(places, tuple) or len(places) != size:
        return False
    return all([is_whole(place, 0, many - 1) for place in places])


def round_number(program):
    """The least common multiple of the numbers of all rests."""
    return least_multiple([step[1] for step in program if step[0] == "rest"])


def is_refused(step, counter):
    """Whether the step is a take for which the counter is too small."""
    return step[0] == "take" and counter < step[1]


def next_of(step, counter):
    """The place and the counter behind a step that is no end."""
    if is_refused(step, counter):
        return step[3], counter
    return _freely(step, counter)


def _freely(step, counter):
    """The place and the counter behind a step if no take is refused."""
    if step[0] == "add":
        return step[2], counter + step[1]
    if step[0] == "take":
        return step[2], counter - step[1]
    return step[2][counter % step[1]], counter


def _laps(program):
    """A dict of the begins to which their free way comes back.

    A begin (place, remainder) has the lap (steps, change of the counter, counter needed so
    that no take is refused).
    """
    turn = round_number(program)
    laps = {}
    for place in range(len(program)):
        for rest in range(turn):
            lap = _lap(program, (place, rest), turn)
            if lap is not None:
                laps[(place, rest)] = lap
    return laps


def _lap(program, begin, turn):
    """The lap of the begin; None if the free way does not come back to it."""
    place, start = begin
    counter = start
    needed = 0
    for steps in range(1, len(program) * turn + 1):
        step = program[place]
        if step[0] == "end":
            return None
        if step[0] == "take":
            needed = max(needed, step[1] - (counter - start))
        place, counter = _freely(step, counter)
        if (place, counter % turn) == begin:
            return steps, counter - start, needed
    return None


def follow(program, number, count):
    """Where the program stands when it has gone count steps, comes to an end or to a way round.

    Returns (steps gone, place, counter, way round): the way round is None, or its steps and
    how much greater the counter is behind it, no less than before; it begins just there.
    """
    laps = _laps(program)
    turn = round_number(program)
    gone, place, counter = 0, 0, number
    refused = {}
    while gone < count and program[place][0] != "end":
        # Where the free way does not come back, no counter is great enough for a lap.
        steps, change, needed = laps.get((place, counter % turn), (1, 0, counter + 1))
        if counter >= needed:
            if change >= 0:
                return gone, place, counter, (steps, change)
            times = min((counter - needed) // -change + 1, (count - gone) // steps)
            gone += times * steps
            counter += times * change
        if gone < count:
            if is_refused(program[place], counter):
                # Here the counter is small: without an end it comes to such a pair again.
                if (place, counter) in refused:
                    return gone, place, counter, (gone - refused[(place, counter)], 0)
                refused[(place, counter)] = gone
            place, counter = next_of(program[place], counter)
            gone += 1
    return gone, place, counter, None


def answer(program, number):
    """The word with which the program ends for the number, never if it does not end."""
    step = program[follow(program, number, FAR)[1]]
    return step[1] if step[0] == "end" else "never"


def stands(program, number, count):
    """The place and the counter behind so many steps."""
    gone, place, counter, lap = follow(program, number, count)
    if lap is not None:
        steps, change = lap
        times, left = divmod(count - gone, steps)
        counter += times * change
        for _ in range(left):
            place, counter = next_of(program[place], counter)
    return place, counter


def length(program, number):
    """Behind how many steps the program comes to an end place; None if it never does."""
    gone, place, _, _ = follow(program, number, FAR)
    return gone if program[place][0] == "end" else None


def falls(program):
    """All falls above 0 of the rounds of free ways, ascending."""
    changes = [lap[1] for lap in _laps(program).values()]
    return tuple(sorted(set([-change for change in changes if change < 0])))


def _size(program):
    """The lengths of a head and of a turn with which the answers come round."""
    turn = round_number(program)
    return 4 * turn * len(program), least_multiple([turn] + list(falls(program)))


def ends(program):
    """The tables of the numbers that are answered with yes, with no, with never."""
    return _triple(_answers(program, [0]), 0, _size(program))


def ends_at(program):
    """For each place such tables of the program that begins there."""
    places = list(range(len(program)))
    answers = _answers(program, places)
    size = _size(program)
    return tuple([_triple(answers, place, size) for place in places])


def _triple(answers, place, size):
    head, turn = size
    words = [answers[(place, number)] for number in range(head + turn)]
    rows = ["".join(["1" if found == word else "0" for found in words]) for word in _WORDS]
    return tuple([table_of(row, head) for row in rows])


def _answers(program, places):
    """The answers of all pairs (place, counter) that come from these places and small numbers."""
    head, turn = _size(program)
    answers = {}
    for place in places:
        for number in range(head + turn):
            # A round that falls first rises by at most the head: from so far none falls.
            _settle(program, (place, number), 2 * head + turn, answers)
    return answers


def _settle(program, state, far, answers):
    """Set the answer of the state and of those behind it that have none yet."""
    way = []
    word = None
    while word is None:
        place, counter = state
        step = program[place]
        if state in answers:
            word = answers[state]
        elif step[0] == "end":
            word = step[1]
        elif counter >= far:
            word = "never"
        else:
            # If the way comes back here, it never ends.
            answers[state] = "never"
            way.append(state)
            state = next_of(step, counter)
    for passed in way:
        answers[passed] = word
    answers[state] = word


def met(program):
    """The places at which the program stands at some time for some number, ascending."""
    return tuple(sorted(set([place for place, counter in list(_answers(program, [0]))])))


def same_ends(one, other):
    """Whether both programs answer all numbers alike."""
    return ends(one) == ends(other)


def ends_parted(one, other):
    """The least number that both programs answer unlike; None if there is none."""
    partings = [parting(left, right) for left, right in zip(ends(one), ends(other))]
    found = [number for number in partings if number is not None]
    return min(found) if found else None
