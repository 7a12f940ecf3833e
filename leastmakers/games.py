"""Games of takes from heaps: who loses, and the worths of heaps."""

from leastmakers.bounds import MAX_TAKE
from leastmakers.common import bits_of, is_ascending, is_whole
from leastmakers.joins import moved
from leastmakers.tables import least, signs, table_error, table_of

_MOST_TAKES = 8


def game_error(value):
    """The word game if value is no game, None for a game."""
    if not isinstance(value, tuple) or not 1 <= len(value) <= _MOST_TAKES:
        return "game"
    if not all([is_whole(take, 1, MAX_TAKE) for take in value]) or not is_ascending(value):
        return "game"
    return None


def lost(game):
    """The table of the lost numbers, where whoever cannot move loses."""
    return of_worth(game, 0)


def lost_last(game):
    """The table of the numbers that are lost by the last, where whoever cannot move wins."""
    return moved(lost(game), game[0])


def lost_holds(game, value):
    """Whether value is a table, least or not, of just the lost numbers."""
    return table_error(value) is None and least(value) == lost(game)


def _worth_row(game):
    """The length of a head, and the list of the worths of it and of a turn behind it."""
    row = []
    seen = {}
    ahead = ()
    # The worths of as many numbers as the greatest take tell all further ones.
    while ahead not in seen:
        seen[ahead] = len(row)
        row.append(_next_worth(game, row))
        ahead = tuple(row[-game[-1]:])
    return seen[ahead], row


def _next_worth(game, row):
    """The worth of the number to whose takes the row tells all worths."""
    number = len(row)
    ahead = [row[number - take] for take in game if take <= number]
    found = 0
    while found in ahead:
        found += 1
    return found


def worth(game, number):
    """The worth of the number."""
    return _worth_at(worths(game), number)


def _worth_at(table, number):
    head, turn = table
    if number < len(head):
        return head[number]
    return turn[(number - len(head)) % len(turn)]


def worths(game):
    """The pair (head, turn) of tuples by which the worths go."""
    head, row = _worth_row(game)
    # Worths have one figure each, so that their least head and turn are those of a text.
    parts = table_of("".join([str(found) for found in row]), head)
    return tuple([tuple([int(figure) for figure in part]) for part in parts])


def of_worth(game, worth):
    """The table of the numbers with this worth."""
    head, row = _worth_row(game)
    return table_of("".join(["1" if found == worth else "0" for found in row]), head)


def is_lost(game, heaps, rule):
    """Whether whoever is to move with these heaps loses."""
    table = worths(game)
    return _is_lost_by([_worth_at(table, heap) for heap in heaps], rule)


def _is_lost_by(found, rule):
    """Whether heaps of the worths found are lost."""
    total = 0
    for one in found:
        total = total ^ one
    if rule == "last loses" and max(found) < 2:
        return total == 1
    return total == 0


def best(game, heaps, rule):
    """The first move (index of a heap, take) to heaps that are lost; None if there is none."""
    table = worths(game)
    found = [_worth_at(table, heap) for heap in heaps]
    for index, heap in enumerate(heaps):
        for take in game:
            if take <= heap:
                after = [_worth_at(table, heap - take)]
                if _is_lost_by(found[:index] + after + found[index + 1:], rule):
                    return index, take
    return None


def may_come(game, most):
    """All numbers to most, no takes of the game, with which it has the same lost numbers."""
    table = lost(game)
    # Two lost numbers behind head and turn differ as those a turn earlier do.
    near = len(table[0]) + len(table[1])
    bits = bits_of(signs(table, near + most))
    near_bits = bits & ((1 << near) - 1)
    return tuple([take for take in range(1, most + 1)
                  if take not in game and near_bits & (bits >> take) == 0])


def needless(game):
    """The takes of which each can be left out alone without change of the lost numbers."""
    if len(game) == 1:
        return ()
    table = lost(game)
    return tuple([take for take in game if lost(_left(game, take)) == table])


def _left(game, take):
    """The game without this take."""
    return tuple([other for other in game if other != take])


def slim(game):
    """The first game of the fewest takes, all of this one, with the same lost numbers."""
    table = lost(game)
    return min([(len(takes), takes) for takes in _games(game) if lost(takes) == table])[1]


def games_for(table):
    """All games whose lost numbers the table tells, ascending."""
    table = least(table)
    return tuple([game for game in _games(list(range(1, MAX_TAKE + 1))) if lost(game) == table])


def _games(takes):
    """All games of some of these takes, ascending."""
    games = [()]
    for take in takes:
        games = games + [game + (take,) for game in games]
    return sorted([game for game in games if game != ()])


def longest_turn(most):
    """The greatest length of a turn of lost with takes to most, and the first such game."""
    best_length, best_game = 0, ()
    for game in _games(list(range(1, most + 1))):
        size = len(lost(game)[1])
        if size > best_length:
            best_length, best_game = size, game
    return best_length, best_game
