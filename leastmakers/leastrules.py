"""The least told sums that make a stretch, and how much of a table tells what comes next."""

from leastmakers.common import are_below, figures, is_number, is_pair, power, sum_ahead
from leastmakers.errors import TooGreat
from leastmakers.tables import has, least, signs

# How many tuples are gone through at most.
_MOST_TUPLES = 5000
# How many signs the least tables have that told_sum, and that memory and forks, are told of.
_MOST_FOR_SUM = 50
_MOST_FOR_MEMORY = 200


def makes(modulus, value, stretch):
    """Whether value is a tuple of numbers that makes the stretch."""
    if not are_below(modulus, value) or len(value) > len(stretch):
        return False
    return refused_at(modulus, value, stretch) is None


def refused_at(modulus, factors, stretch):
    """The least place at which the factors do not make the stretch; None if they make it."""
    many = len(factors)
    for place in range(many, len(stretch)):
        if sum_ahead(modulus, factors, stretch[place - many:place]) != stretch[place]:
            return place
    return None


def least_sum(modulus, stretch):
    """The least of the shortest tuples that make the stretch; None if all tried ones do not."""
    for many in range(len(stretch) + 1):
        if power(modulus, many) > _MOST_TUPLES:
            return None
        asked = _asked(stretch, many)
        for factors in _tuples(modulus, many):
            if _first_refusal(modulus, factors, asked) is None:
                return factors
    return None


def refusals(modulus, stretch, many):
    """For each tuple of so many numbers, ascending, what refused_at tells of it."""
    asked = _asked(stretch, many)
    return tuple([_first_refusal(modulus, factors, asked)
                  for factors in _tuples(modulus, many)])


def _tuples(modulus, many):
    """All tuples of so many numbers below the modulus, ascending."""
    return [figures(code, modulus, many) for code in range(power(modulus, many))]


def _asked(stretch, many):
    """What so many factors have to make of what: (place, numbers ahead, number), none twice."""
    places = {}
    for place in range(many, len(stretch)):
        places.setdefault((stretch[place - many:place], stretch[place]), place)
    return [(place, ahead, number) for (ahead, number), place in places.items()]


def _first_refusal(modulus, factors, asked):
    for place, ahead, number in asked:
        if sum_ahead(modulus, factors, ahead) != number:
            return place
    return None


def fewest_factors(prime, stretch):
    """How many numbers make the stretch at least."""
    return profile(prime, stretch)[-1]


def profile(prime, stretch):
    """The fewest factors for the first 0, 1, 2 and so on of the stretch, up to all."""
    return _ways_on(prime, stretch)[0]


def least_factors(prime, stretch):
    """As few numbers as can be that make the stretch."""
    many, shares = _ways_on(prime, stretch)
    factors = [-share % prime for share in shares[1:]]
    return tuple(factors + [0] * (many[-1] - len(factors)))


def _ways_on(prime, stretch):
    """The profile, and the shares whose sums with the numbers backwards from each place are 0.

    This is the way of Berlekamp and Massey: where the shares fail, those that failed when the
    fewest factors last became more are taken so often from them that this one is right.
    """
    shares, older = [1], [1]
    older_sum = shift = 1
    many = [0]
    for place in range(len(stretch)):
        total = sum([share * stretch[place - k] for k, share in enumerate(shares)]) % prime
        fewest = many[-1]
        if total != 0:
            times = total * _inverse(prime, older_sum)
            right = _taken_from(prime, shares, [0] * shift + older, times)
            if 2 * fewest <= place:
                fewest = place + 1 - fewest
                older, older_sum, shift = shares, total, 0
            shares = right
        shift += 1
        many.append(fewest)
    return tuple(many), shares


def _inverse(prime, number):
    """The number below the prime that times this one is 1 by the prime."""
    found = 1
    while found * number % prime != 1:
        found += 1
    return found


def _taken_from(prime, row, other, times):
    """The row less the other one so many times, as long as the longer one."""
    many = max(len(row), len(other))
    left = row + [0] * (many - len(row))
    right = other + [0] * (many - len(other))
    return [(one - times * two) % prime for one, two in zip(left, right)]


def lack(prime, stretch, many):
    """Weights of the places that show that no so many numbers make the stretch, or None."""
    pivots = []
    for place in range(many, len(stretch)):
        # The numbers ahead, the one here, and behind them which places this is made of.
        weights = [1 if other == place else 0 for other in range(many, len(stretch))]
        row = list(stretch[place - many:place + 1]) + weights
        for column, pivot in pivots:
            row = _taken_from(prime, row, pivot, row[column])
        columns = [column for column in range(many + 1) if row[column] != 0]
        if columns != []:
            row = _taken_from(prime, [0] * len(row), row, -_inverse(prime, row[columns[0]]))
            if columns[0] == many:
                return tuple(row[many + 1:])
            pivots.append((columns[0], row))
    return None


def is_lack(prime, stretch, many, value):
    """Whether value is a lack of so many numbers."""
    if not are_below(prime, value) or len(value) != len(stretch) - many:
        return False
    for less in range(many + 1):
        shifted = stretch[many - less:]
        total = sum([weight * number for weight, number in zip(value, shifted)]) % prime
        if total != (1 if less == 0 else 0):
            return False
    return True


def told_sum(table):
    """The fewest numbers by which, modulo 2, all signs behind as many go on."""
    size = _size_up_to(table, _MOST_FOR_SUM)
    return least_factors(2, tuple([int(sign) for sign in signs(table, 2 * size)]))


def _size_up_to(table, most):
    """The signs of the least table, head and turn; TooGreat if these are more than most."""
    head, turn = least(table)
    if len(head) + len(turn) > most:
        raise TooGreat()
    return len(head) + len(turn)


def memory(table):
    """How many numbers just ahead it takes to tell whether a number is told."""
    many = 0
    while fork(table, many) is not None:
        many += 1
    return many


def fork(table, many):
    """Two numbers with the same so many signs ahead, just one of them told; None without."""
    # Where all signs ahead are of the turn, numbers go on as they do a turn later.
    far = _size_up_to(table, _MOST_FOR_MEMORY) + many
    row = signs(table, far)
    first = {}
    for number in range(many, far):
        other = first.setdefault(row[number - many:number], number)
        if row[other] != row[number]:
            return other, number
    return None


def is_fork(table, many, value):
    """Whether value is a fork of the table behind so many."""
    _size_up_to(table, _MOST_FOR_MEMORY)
    if not is_pair(value) or not all([is_number(item) for item in value]):
        return False
    low, high = value
    if not many <= low < high or has(table, low) == has(table, high):
        return False
    return all([has(table, low - k) == has(table, high - k) for k in range(1, many + 1)])
