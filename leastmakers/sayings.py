"""Sayings about numbers and tables: of which numbers they are so."""

from leastmakers.common import check_size, is_whole, least_multiple
from leastmakers.counts import below, kth, next_from
from leastmakers.joins import contrary
from leastmakers.tables import least, signs, table_of

_MOST_INDEX = 2
_MOST_NUMBER = 20
_MOST_DEEP = 6
_MOST_WORDS = 30

# How many sayings stand behind each word that has nothing but sayings behind it.
_SAYINGS_BEHIND = {"not": 1, "and": 2, "or": 2, "from": 1, "some": 1, "till": 2, "ahead": 1,
                   "since": 2}


def saying_error(value):
    """The first word that tells why value is no saying; None for a saying."""
    if not _has_form(value):
        return "form"
    if _depth(value) > _MOST_DEEP:
        return "deep"
    if len(all_sayings(value)) > _MOST_WORDS:
        return "many"
    return None


def _has_form(value):
    if not isinstance(value, tuple) or len(value) == 0 or not isinstance(value[0], str):
        return False
    word = value[0]
    if word == "told":
        return len(value) == 3 and is_index(value[1]) and _is_distance(value[2])
    if word == "next":
        return len(value) == 3 and _is_distance(value[1]) and _has_form(value[2])
    if word not in _SAYINGS_BEHIND or len(value) != _SAYINGS_BEHIND[word] + 1:
        return False
    return all([_has_form(part) for part in value[1:]])


def is_index(value):
    """Whether value is an index of a table."""
    return is_whole(value, 0, _MOST_INDEX)


def _is_distance(value):
    return is_whole(value, 0, _MOST_NUMBER)


def _depth(saying):
    return 1 + max([0] + [_depth(part) for part in _sayings_behind(saying)])


def _sayings_behind(saying):
    """The sayings that stand behind the word of the saying."""
    if saying[0] == "told":
        return ()
    return saying[2:] if saying[0] == "next" else saying[1:]


def all_sayings(saying):
    """All sayings in the saying, and itself, each behind those that stand in it."""
    found = []
    for part in _sayings_behind(saying):
        found = found + all_sayings(part)
    return found + [saying]


def is_over(saying, many):
    """Whether all indexes of the saying are less than this."""
    return all([part[1] < many for part in all_sayings(saying) if part[0] == "told"])


def truth(saying, tables):
    """The table of the numbers of which the saying is so."""
    size = _size(saying, tables)
    return table_of(_add_rows(saying, tables, size, []), size[0])


def all_truths(saying, tables):
    """The tables of all sayings in the saying, and of itself, each behind those in it."""
    size = _size(saying, tables)
    found = []
    _add_rows(saying, tables, size, found)
    return tuple([table_of(row, size[0]) for row in found])


def _size(saying, tables):
    """The lengths of head and turn with which all rows go; TooGreat if they are too long."""
    parts = [least(table) for table in tables]
    turn = least_multiple([len(part[1]) for part in parts])
    behind = [part for part in all_sayings(saying) if part[0] in ("ahead", "since")]
    # What is behind a number is as it will be only when all there was has come once.
    head = max([len(part[0]) for part in parts]) + len(behind) * turn
    check_size(head, turn)
    return head, turn


def _add_rows(saying, tables, size, found):
    """Add the rows of signs of all sayings in the saying, and return its own, the last one."""
    rows = [_add_rows(part, tables, size, found) for part in _sayings_behind(saying)]
    row = _row_of(saying, rows, tables, size)
    found.append(row)
    return row


def _row_of(saying, rows, tables, size):
    """The row of signs of the saying, by the rows of the sayings behind its word."""
    word = saying[0]
    if word == "told":
        return signs(tables[saying[1]], saying[2] + sum(size))[saying[2]:]
    if word == "not":
        return _row_of_signs([sign == "0" for sign in rows[0]])
    if word == "and":
        return _row_of_signs([one + other == "11" for one, other in zip(rows[0], rows[1])])
    if word == "or":
        return _row_of_signs([one + other != "00" for one, other in zip(rows[0], rows[1])])
    if word == "next":
        return (rows[0] + rows[0][size[0]:] * saying[1])[saying[1]:][:sum(size)]
    if word == "from":
        return _ones_behind(rows[0].rfind("0"), size)
    if word == "some":
        return _noughts_behind(rows[0].rfind("1"), size)
    if word == "till":
        return _till_row(rows[0], rows[1], size)
    if word == "ahead":
        first = rows[0].find("1")
        return "0" * sum(size) if first == -1 else _ones_behind(first, size)
    return _since_row(rows[0], rows[1])


def _row_of_signs(truths):
    return "".join(["1" if found else "0" for found in truths])


def _ones_behind(place, size):
    """Noughts up to the place, ones behind it; noughts alone if the place is in the turn."""
    if place >= size[0]:
        return "0" * sum(size)
    return ("0" * (place + 1)).ljust(sum(size), "1")


def _noughts_behind(place, size):
    """Ones up to the place, noughts behind it; ones alone if the place is in the turn."""
    if place >= size[0]:
        return "1" * sum(size)
    return ("1" * (place + 1)).ljust(sum(size), "0")


def _till_row(lasting, ending, size):
    """The row of till: it is so where it ends, and where it lasts ahead of such a place."""
    head = size[0]
    # One turn more tells how it stands at the end of the row.
    long_row = _since_row((lasting + lasting[head:])[::-1], (ending + ending[head:])[::-1])
    return long_row[::-1][:sum(size)]


def _since_row(lasting, beginning):
    """The row of since: it is so where it begins, and where it lasts behind such a place."""
    found = []
    so = False
    for lasts, begins in zip(lasting, beginning):
        so = begins == "1" or (so and lasts == "1")
        found.append(so)
    return _row_of_signs(found)


def shown_at(saying, tables, number):
    """The number at which the saying is shown, or not, of this number; None without one."""
    size = _size(saying, tables)
    rows = [_add_rows(part, tables, size, []) for part in _sayings_behind(saying)]
    parts = [table_of(row, size[0]) for row in rows]
    word = saying[0]
    if word == "some":
        return next_from(parts[0], number)
    if word == "from":
        return next_from(contrary(parts[0]), number)
    if word == "ahead":
        return _last_below(parts[0], number)
    failing = contrary(parts[0])
    if word == "till":
        found, wrong = next_from(parts[1], number), next_from(failing, number)
        return None if found is None or (wrong is not None and wrong < found) else found
    found, wrong = _last_below(parts[1], number + 1), _last_below(failing, number + 1)
    return None if found is None or (wrong is not None and wrong > found) else found


def _last_below(table, number):
    """The greatest told number less than this one; None if there is none."""
    many = below(table, number)
    return kth(table, many - 1) if many > 0 else None
