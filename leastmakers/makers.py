"""Makers: all that makes a round set of numbers, and the tables that they make."""

from leastmakers.books import book_error, derived
from leastmakers.bounds import MAX_COIN, MAX_COINS
from leastmakers.coinpapers import purse_paper
from leastmakers.coins import paid, purse_error
from leastmakers.common import is_whole
from leastmakers.errors import BadMaker, TooGreat
from leastmakers.games import game_error, games_for, lost
from leastmakers.programs import ends, program_error
from leastmakers.rows import reads, rule_error
from leastmakers.sayings import is_over, saying_error, truth
from leastmakers.tables import has, is_least, parting, table_error
from leastmakers.watches import held, watches_error
from leastmakers.webs import lasso, walked, web_error

_MOST_MAKERS = 9
_MOST_PATH = 2
_MOST_INNER = 3

# How many items stand behind the word of each kind.
_ITEMS_BEHIND = {"table": 1, "watches": 1, "coins": 1, "web": 1, "game": 1, "book": 2,
                 "program": 2, "row": 2, "saying": 2}
# The words in the order of the tables of a program.
_ANSWERS = ("yes", "no", "never")


def maker_error(value):
    """The first pair (path, word) that tells why value is no maker; None for a maker."""
    waiting = [((), value)]
    looked = 0
    while waiting:
        path, thing = waiting.pop()
        looked += 1
        word = "many" if looked > _MOST_MAKERS else _wrong_word(path, thing)
        if word is not None:
            return path, word
        if thing[0] == "saying":
            inner = [(path + (place,), part) for place, part in enumerate(thing[2])]
            waiting = waiting + inner[::-1]
    return None


def _wrong_word(path, thing):
    """The first word that tells what is wrong with the thing itself; None if nothing is."""
    if len(path) > _MOST_PATH:
        return "deep"
    if not isinstance(thing, tuple) or len(thing) == 0 or not isinstance(thing[0], str):
        return "kind"
    kind = thing[0]
    if kind not in _ITEMS_BEHIND or len(thing) != _ITEMS_BEHIND[kind] + 1:
        return "kind"
    fits = _fits_one(kind, thing[1]) if len(thing) == 2 else _fits_two(kind, thing[1], thing[2])
    return None if fits else kind


def _fits_one(kind, item):
    """Whether the item is as the kind asks for it."""
    if kind == "table":
        return table_error(item) is None and is_least(item)
    if kind == "watches":
        return watches_error(item) is None
    if kind == "coins":
        return purse_error(item) is None
    if kind == "web":
        return web_error(item) is None
    return game_error(item) is None


def _fits_two(kind, item, other):
    """Whether the item and the other one are as the kind asks for them."""
    if kind == "book":
        return book_error(item) is None and is_whole(other, 0, item[0] - 1)
    if kind == "program":
        return program_error(item) is None and other in _ANSWERS
    if kind == "row":
        return rule_error(item) is None and is_whole(other, 0, item[0] - 1)
    if not isinstance(other, tuple) or not 1 <= len(other) <= _MOST_INNER:
        return False
    return saying_error(item) is None and is_over(item, len(other))


def made(maker):
    """The table of the maker."""
    error = maker_error(maker)
    if error is not None:
        raise BadMaker(error[0], error[1])
    return _table_of_maker(maker)


def _table_of_maker(maker):
    kind, item = maker[0], maker[1]
    if kind == "saying":
        return truth(item, tuple([_table_of_maker(part) for part in maker[2]]))
    if kind == "book":
        return derived(item)[maker[2]]
    if kind == "program":
        return ends(item)[_ANSWERS.index(maker[2])]
    if kind == "row":
        return reads(item, maker[2])
    if kind == "watches":
        return held(item)
    if kind == "coins":
        return paid(item)
    if kind == "web":
        return walked(item)
    return lost(item) if kind == "game" else item


def same_made(one, other):
    """Whether both makers make the same table."""
    return made(one) == made(other)


def parted(one, other):
    """The least number that just one maker tells and the place of this one; None if none is."""
    left, right = made(one), made(other)
    number = parting(left, right)
    if number is None:
        return None
    return number, (0 if has(left, number) else 1)


def least_makers(table):
    """The least coins, game and web that make the table, None for a kind that has none."""
    games = games_for(table)
    game = None if games == () else ("game", games[0])
    return _least_coins(table), game, _least_web(table)


def _least_coins(table):
    paper = purse_paper(table)
    if paper[0] != "coins" or not 1 <= len(paper[1]) <= MAX_COINS:
        return None
    return ("coins", (paper[1], ())) if paper[1][-1] <= MAX_COIN else None


def _least_web(table):
    try:
        return "web", lasso(table)
    except TooGreat:
        return None
