"""Webs: spots with steps between them, and the numbers of steps of walks to an end."""

from leastmakers.bounds import MAX_WATCHES
from leastmakers.common import (
    greatest_divisor, has_bit, is_ascending, is_number, is_pair, is_triple, is_whole)
from leastmakers.errors import TooGreat
from leastmakers.tables import least, table_of
from leastmakers.watches import longest_watches

_MOST_SPOTS = 12
# The greatest number for which a tour is a plain walk, and the most spots beside a ring.
_FAR = 2000
_MOST_BESIDE = 4000


def web_error(value):
    """The first word that tells why value is no web; None for a web."""
    if not is_triple(value):
        return "form"
    many, steps, ends = value
    if not is_whole(many, 1, _MOST_SPOTS):
        return "many"
    if not _are_steps(many, steps):
        return "steps"
    if not isinstance(ends, tuple) or not _are_spots(many, ends) or not is_ascending(ends):
        return "ends"
    return None


def _are_spots(many, items):
    return all([is_whole(item, 0, many - 1) for item in items])


def _are_steps(many, value):
    if not isinstance(value, tuple):
        return False
    return all([is_pair(item) and _are_spots(many, item) for item in value]) and is_ascending(value)


def walked(web):
    """The table of the numbers that the web makes."""
    rows, again = reached(web)
    row = "".join(["1" if any([end in spots for end in web[2]]) else "0" for spots in rows])
    return table_of(row, again)


def reached(web):
    """The spots at which walks of 0, 1, 2 and so on steps end, and the place to go on at again."""
    row = (0,)
    places = {}
    while row not in places:
        places[row] = len(places)
        row = tuple(sorted({spot for ahead, spot in web[1] if ahead in row}))
    return tuple(places), places[row]


def walk(web, number):
    """A walk of so many steps that ends at an end; None if there is none."""
    return _way(web, 0, web[2], number)


def is_walk(web, number, value):
    """Whether value is a walk of so many steps that ends at an end."""
    if not _is_way(web, value) or len(value) != number + 1:
        return False
    return value[0] == 0 and value[-1] in web[2]


def _is_way(web, value):
    """Whether value is a tuple of one or more spots that go by steps."""
    if not isinstance(value, tuple) or value == () or not _are_spots(web[0], value):
        return False
    steps = {step: True for step in web[1]}
    return all([step in steps for step in zip(value, value[1:])])


def _toward(web, goals, many):
    """For each number of steps up to many the bits of the spots from which it leads to a goal."""
    bits = 0
    for goal in goals:
        bits = bits | (1 << goal)
    layers = [bits]
    behind = _behind(web)
    for _ in range(many):
        bits = 0
        for spot in range(web[0]):
            if behind[spot] & layers[-1]:
                bits = bits | (1 << spot)
        layers.append(bits)
    return layers


def _behind(web):
    """For each spot the bits of the spots to which a step leads from it."""
    behind = [0] * web[0]
    for ahead, spot in web[1]:
        behind[ahead] = behind[ahead] | (1 << spot)
    return behind


def _way(web, start, goals, many):
    """Spots by so many steps from start to a goal; None if there are none."""
    layers = _toward(web, goals, many)
    if not has_bit(layers[many], start):
        return None
    behind = _behind(web)
    way = [start]
    for left in range(many - 1, -1, -1):
        fitting = behind[way[-1]] & layers[left]
        way.append((fitting & -fitting).bit_length() - 1)
    return tuple(way)


def tour(web, number):
    """A tour for the number; None if the web does not make it."""
    if number <= _FAR:
        way = walk(web, number)
        return None if way is None else (way, (), 0, way[-1:])
    # So long a walk comes to a spot twice: from there a ring leads, which may be left out
    # of the walk or put into it without change of the remainder by its length.
    for spot in range(web[0]):
        ring = _least_ring(web, spot)
        found = None if ring is None else _tour_by(web, number, ring)
        if found is not None:
            return found
    return None


def _least_ring(web, spot):
    for many in range(1, web[0] + 1):
        ring = _way(web, spot, (spot,), many)
        if ring is not None:
            return ring
    return None


def _tour_by(web, number, ring):
    """A tour with this ring for a number that is great; None if there is none."""
    spot = ring[0]
    turn = len(ring) - 1
    fronts = _least_steps(web, 0, (spot,), turn)
    behinds = _least_steps(web, spot, web[2], turn)
    for rest, ahead in fronts.items():
        after = behinds.get((number - rest) % turn)
        if after is not None:
            times = (number - ahead - after) // turn
            return _way(web, 0, (spot,), ahead), ring, times, _way(web, spot, web[2], after)
    return None


def _least_steps(web, start, goals, turn):
    """For each remainder by turn that comes the least steps with it from start to a goal."""
    found = {}
    # A least way comes to no spot twice with the same remainder.
    for many, bits in enumerate(_toward(web, goals, turn * web[0])):
        if has_bit(bits, start):
            found.setdefault(many % turn, many)
    return found


def is_tour(web, number, value):
    """Whether value is a tour for the number."""
    if not isinstance(value, tuple) or len(value) != 4:
        return False
    front, ring, times, behind = value
    if not _is_way(web, front) or not _is_way(web, behind) or not is_number(times):
        return False
    if front[0] != 0 or behind[0] != front[-1] or behind[-1] not in web[2]:
        return False
    beside = len(front) + len(behind)
    if beside > _MOST_BESIDE:
        return False
    if times == 0:
        return ring == () and beside - 2 == number
    if not _is_way(web, ring) or not 2 <= len(ring) <= _MOST_SPOTS + 1:
        return False
    if ring[0] != front[-1] or ring[-1] != front[-1]:
        return False
    return beside - 2 + times * (len(ring) - 1) == number


def knots(web):
    """The knots on walks to an end, each as its spots and the length of its turn."""
    leads = _leads(web)
    useful = _useful(web, leads)
    found = {}
    for spot in useful:
        if has_bit(leads[spot], spot):
            spots = tuple([other for other in useful if _both_lead(leads, spot, other)])
            found[spots] = _turn_of(web, spot)
    return tuple(sorted(list(found.items())))


def _leads(web):
    """For each spot the bits of the spots to which it leads by one step or more."""
    leads = _behind(web)
    for middle in range(web[0]):
        for spot in range(web[0]):
            if has_bit(leads[spot], middle):
                leads[spot] = leads[spot] | leads[middle]
    return leads


def _useful(web, leads):
    """The spots on walks to an end, ascending."""
    goals = _toward(web, web[2], 0)[0]
    ahead = leads[0] | 1
    return [spot for spot in range(web[0])
            if has_bit(ahead, spot) and (leads[spot] | (1 << spot)) & goals]


def _both_lead(leads, one, other):
    return has_bit(leads[one], other) and has_bit(leads[other], one)


def _turn_of(web, spot):
    """The greatest common divisor of the lengths of all ways from the spot back to it."""
    # To a ring and back, with and without the ring, is at most so long.
    layers = _toward(web, (spot,), 3 * web[0])
    lengths = [many for many, bits in enumerate(layers) if has_bit(bits, spot)]
    return greatest_divisor(lengths)


def bare(web):
    """The web of spot 0 and the spots on walks to an end, numbered anew."""
    kept = sorted(set([0] + _useful(web, _leads(web))))
    places = {spot: place for place, spot in enumerate(kept)}
    steps = [(places[a], places[b]) for a, b in web[1] if a in places and b in places]
    ends = [places[end] for end in web[2] if end in places]
    return len(kept), tuple(steps), tuple(ends)


def lasso(table):
    """The plain web with the fewest spots that makes the table."""
    head, turn = least(table)
    many = len(head) + len(turn)
    if many > _MOST_SPOTS:
        raise TooGreat()
    steps = [(spot, spot + 1) for spot in range(many - 1)] + [(many - 1, len(head))]
    ends = [spot for spot, sign in enumerate(head + turn) if sign == "1"]
    return many, tuple(steps), tuple(ends)


def _ring_steps(first, many):
    """The steps of a ring of so many spots, from first on."""
    return [(first + k, first + (k + 1) % many) for k in range(many)]


def web_head(many):
    """The greatest length of a head of a web of so many spots, and such a web."""
    if many == 1:
        return 1, (1, (), (0,))
    steps = _ring_steps(0, many) + [(many - 1, 1)]
    return (many - 1) ** 2 + 1, (many, tuple(sorted(set(steps))), (0,))


def web_turn(many):
    """The greatest length of a turn of a web of so many spots, and such a web."""
    rings = [] if many == 1 else [turn for _, turn in longest_watches(MAX_WATCHES, many - 1)]
    product = 1
    for turn in rings:
        product = product * turn
    if product <= many:
        return many, (many, tuple(_ring_steps(0, many)), (0,))
    return product, _web_of_rings(many, rings)


def _web_of_rings(many, rings):
    """A web in which one step leads from spot 0 to an end in each of the rings."""
    steps = []
    ends = []
    first = 1
    for turn in rings:
        steps = steps + [(0, first)] + _ring_steps(first, turn)
        ends.append(first)
        first += turn
    return many, tuple(sorted(steps)), tuple(ends)
