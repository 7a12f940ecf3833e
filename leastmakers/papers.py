"""Papers that show whether a maker tells a number, and findings on two makers."""

from math import gcd

from leastmakers.bookpapers import bar, bars, uses, uses_hold
from leastmakers.coins import paid, pay, pay_holds
from leastmakers.common import bits_of, is_ascending, is_number, is_pair, is_whole
from leastmakers.errors import TooGreat
from leastmakers.games import lost, lost_holds
from leastmakers.makers import made
from leastmakers.notes import notes
from leastmakers.programpapers import way_round, way_round_holds
from leastmakers.programs import answer
from leastmakers.tables import has, parting, signs, table_error
from leastmakers.watches import hands
from leastmakers.webs import is_walk, reached, walk

_MOST_NUMBER = 1000
_MOST_SETS = 400


def paper(maker, number):
    """A paper that shows whether the maker tells the number."""
    if has(made(maker), number):
        return "yes", _thing_of_told(maker, number)
    return "no", _thing_of_untold(maker, number)


def _thing_of_told(maker, number):
    kind, item = maker[0], maker[1]
    if kind == "watches":
        return hands(item, number)[0]
    if kind == "coins":
        return pay(item, number)
    if kind == "web":
        return walk(item, number)
    if kind == "book":
        return uses(item, maker[2], number)
    return _thing_of_both(maker, number)


def _thing_of_untold(maker, number):
    kind, item = maker[0], maker[1]
    if kind == "watches":
        return None
    if kind == "coins":
        return _cover(item)
    if kind == "web":
        return reached(item)
    if kind == "book":
        return bar(item, maker[2], number)
    return _thing_of_both(maker, number)


def _thing_of_both(maker, number):
    """The thing of a kind for which it is found alike by both words."""
    kind, item = maker[0], maker[1]
    if kind == "table":
        return _place_in(item, number)
    if kind == "game":
        return lost(item)
    if kind == "program":
        return way_round(item, number)
    return None if kind == "row" else _notes_of(maker)


def _place_in(table, number):
    """The place of the sign of the number in the head and the turn behind it."""
    head, turn = table
    if number < len(head):
        return number
    return len(head) + (number - len(head)) % len(turn)


def _notes_of(maker):
    return notes(maker[1], tuple([made(part) for part in maker[2]]))


def _cover(purse):
    """The tables of what the first so many coins of the purse pay."""
    free, bounded = purse
    by_free = [paid((free[:many], ())) for many in range(1, len(free) + 1)]
    by_all = [paid((free, bounded[:many])) for many in range(1, len(bounded) + 1)]
    return tuple([("1", "0")] + by_free + by_all)


def paper_holds(maker, number, value):
    """Whether value is a paper that shows whether the maker tells the number."""
    table = made(maker)
    if not is_pair(value) or value[0] not in ("yes", "no"):
        return False
    is_told = value[0] == "yes"
    if maker[0] == "program":
        return _program_shows(maker, number, is_told, value[1])
    if maker[0] in ("table", "game", "row", "saying"):
        return has(table, number) == is_told and _shows_both(maker, number, value[1])
    if is_told:
        return _shows_told(maker, number, value[1])
    return _shows_untold(maker, number, value[1])


def _shows_told(maker, number, thing):
    kind, item = maker[0], maker[1]
    if kind == "watches":
        return is_number(thing) and thing in hands(item, number)
    if kind == "coins":
        return pay_holds(item, number, thing)
    if kind == "web":
        return is_walk(item, number, thing)
    return uses_hold(item, maker[2], number, thing)


def _shows_untold(maker, number, thing):
    kind, item = maker[0], maker[1]
    if kind == "watches":
        return thing is None and hands(item, number) == ()
    if kind == "coins":
        return _is_cover(item, thing) and not has(thing[-1], number)
    if kind == "web":
        return _is_trace(item, thing) and not _has_end(item, _set_at(thing, number))
    return bars(item, maker[2], number, thing)


def _program_shows(maker, number, is_told, thing):
    _, program, word = maker
    if thing is None:
        found = answer(program, number)
        return found != "never" and (found == word) == is_told
    return (word == "never") == is_told and way_round_holds(program, number, thing)


def _shows_both(maker, number, thing):
    """Whether the thing is as it has to be, the table being known to tell the number or not."""
    kind, item = maker[0], maker[1]
    if kind == "table":
        return is_number(thing) and thing == _place_in(item, number)
    if kind == "game":
        return lost_holds(item, thing)
    return thing is None if kind == "row" else thing == _notes_of(maker)


def _is_cover(purse, value):
    """Whether value is a cover of the purse."""
    free, bounded = purse
    if not isinstance(value, tuple) or len(value) != len(free) + len(bounded) + 1:
        return False
    if not all([table_error(table) is None for table in value]) or not has(value[0], 0):
        return False
    for coin, ahead, own in zip(free, value, value[1:]):
        if not _carries(ahead, coin, 0, own) or not _carries(own, coin, 1, own):
            return False
    last = value[len(free):]
    return all([_carries(ahead, coin, times, own)
                for (coin, times), ahead, own in zip(bounded, last, last[1:])])


def _carries(ahead, coin, times, own):
    """Whether own tells all that ahead tells, and this more by up to so many times the coin."""
    head = max(len(ahead[0]) + times * coin, len(own[0]))
    told = bits_of(signs(ahead, head + len(ahead[1])))
    wanted = 0
    for many in range(times + 1):
        wanted = wanted | (told << (many * coin))
    wrong = ~bits_of(signs(own, head + len(own[1])))
    if wanted & wrong & ((1 << head) - 1) != 0:
        return False
    # Far out numbers of both turns meet exactly where these agree by their common divisor.
    size = gcd(len(ahead[1]), len(own[1]))
    far_wanted = _folded(wanted >> head, len(ahead[1]), size)
    return far_wanted & _folded(wrong >> head, len(own[1]), size) == 0


def _folded(bits, many, size):
    """The bits of the remainders by the size of the first so many bits."""
    folded = 0
    for start in range(0, many, size):
        folded = folded | ((bits >> start) & ((1 << size) - 1))
    return folded


def _is_trace(web, value):
    """Whether value is a trace of the web."""
    if not is_pair(value) or not isinstance(value[0], tuple):
        return False
    sets, again = value
    if not 1 <= len(sets) <= _MOST_SETS or not is_whole(again, 0, len(sets) - 1):
        return False
    if not all([_is_set(web, spots) for spots in sets]) or 0 not in sets[0]:
        return False
    behind = sets[1:] + (sets[again],)
    return all([_leads(web, ahead, spots) for ahead, spots in zip(sets, behind)])


def _is_set(web, value):
    if not isinstance(value, tuple) or not all([is_whole(spot, 0, web[0] - 1) for spot in value]):
        return False
    return is_ascending(value)


def _leads(web, ahead, spots):
    """Whether all steps from the spots ahead lead to these spots."""
    return all([spot in spots for start, spot in web[1] if start in ahead])


def _set_at(trace, number):
    sets, again = trace
    if number < len(sets):
        return sets[number]
    return sets[again + (number - again) % (len(sets) - again)]


def _has_end(web, spots):
    return any([spot in spots for spot in web[2]])


def finding(one, other):
    """A finding that shows that both makers are alike, or the least number that parts them."""
    left, right = made(one), made(other)
    number = parting(left, right)
    if number is None:
        return "alike", left
    if number > _MOST_NUMBER:
        raise TooGreat()
    return "parted", number, paper(one, number), paper(other, number)


def finding_holds(one, other, value):
    """Whether value is a finding on both makers."""
    left, right = made(one), made(other)
    if is_pair(value):
        return value[0] == "alike" and left == right and value[1] == left
    if not isinstance(value, tuple) or len(value) != 4 or value[0] != "parted":
        return False
    _, number, paper_of_one, paper_of_other = value
    if not is_whole(number, 0, _MOST_NUMBER):
        return False
    if not paper_holds(one, number, paper_of_one) or not paper_holds(other, number, paper_of_other):
        return False
    return paper_of_one[0] != paper_of_other[0]
