"""Papers that show that a program never ends."""

from leastmakers.bounds import MAX_MORE
from leastmakers.common import is_number, is_pair, is_whole
from leastmakers.programs import FAR, follow, is_refused, next_of, round_number, stands


def way_round(program, number):
    """A way round for the number; None if the program ends."""
    gone, _, _, lap = follow(program, number, FAR)
    return None if lap is None else (gone, lap[0])


def way_round_holds(program, number, value):
    """Whether value is a way round for the number."""
    if not is_pair(value):
        return False
    first, more = value
    if not is_number(first) or not is_whole(more, 1, MAX_MORE):
        return False
    return _comes_round(program, stands(program, number, first), more)


def _comes_round(program, state, more):
    """Whether so many steps lead from the state to one with which it goes on for ever."""
    place, counter = state
    is_any_refused = False
    for _ in range(more):
        step = program[place]
        if step[0] == "end":
            return False
        is_any_refused = is_any_refused or is_refused(step, counter)
        place, counter = next_of(step, counter)
    if place != state[0]:
        return False
    change = counter - state[1]
    if change > 0:
        return not is_any_refused and change % round_number(program) == 0
    return change == 0
