"""A house that keeps lines under names: makers, and sayings over names."""

from leastmakers.bounds import MAX_DEEDS, MAX_LINES
from leastmakers.common import is_ascending, is_name, is_triple
from leastmakers.errors import (
    BadDeeds, BadLine, BadName, BadSeen, Differs, Full, Hangs, NoName, NothingToRedo, NothingToUndo,
    Rejected, Ring, RoundError, Taken, TooDeep, TooMany)
from leastmakers.makers import made, maker_error
from leastmakers.sayings import is_over, saying_error, truth
from leastmakers.tables import has, parting

_MOST_NAMES = 3
_MOST_IN_BATCH = 8

# How many items stand behind the word of each deed of a batch.
_DEED_ITEMS = {"put": 2, "drop": 1, "rename": 2, "change": 2, "swap": 2}

# All functions of this file take the entries of a house: a dict that has for each name the
# pair (line, table). Entries are never changed, so that earlier ones can be kept for undo.


def _is_there(entries, name):
    return isinstance(name, str) and name in entries


def _check_there(entries, name):
    if not _is_there(entries, name):
        raise NoName(name)


def _names_in(line):
    """The names that stand in the line."""
    return line[2] if line[0] == "of" else ()


def _hanging(entries, name):
    """The ascending tuple of the names that hang on the name."""
    found = {}
    waiting = [name]
    while waiting:
        ahead = waiting.pop()
        for other, (line, _) in entries.items():
            if ahead in _names_in(line) and other not in found:
                found[other] = True
                waiting.append(other)
    return tuple(sorted(found))


def _check_line(entries, line):
    """Raise BadLine if the line is none, or none over names of the entries."""
    if is_triple(line) and line[0] == "of":
        if not _fits_of(entries, line[1], line[2]):
            raise BadLine((), "of")
        return
    error = maker_error(line)
    if error is not None:
        raise BadLine(error[0], error[1])


def _fits_of(entries, saying, names):
    if not isinstance(names, tuple) or not 1 <= len(names) <= _MOST_NAMES:
        return False
    if not all([_is_there(entries, name) for name in names]):
        return False
    return saying_error(saying) is None and is_over(saying, len(names))


def _table_of(line, entries):
    """The table of the line, by the tables of the entries."""
    if line[0] == "of":
        return truth(line[1], tuple([entries[name][1] for name in line[2]]))
    return made(line)


def _put(entries, name, line):
    """The entries with the line under the name, and its table."""
    if not is_name(name):
        raise BadName(name)
    if name in entries:
        raise Taken(name)
    if len(entries) >= MAX_LINES:
        raise TooMany(MAX_LINES)
    _check_line(entries, line)
    table = _table_of(line, entries)
    found = dict(entries)
    found[name] = (line, table)
    return found, table


def _drop(entries, name):
    """The entries without the name."""
    _check_there(entries, name)
    hanging = _hanging(entries, name)
    if hanging != ():
        raise Hangs(hanging[0])
    return {other: entry for other, entry in entries.items() if other != name}


def _rename(entries, old, new):
    """The entries with the new name in each place of the old one."""
    _check_there(entries, old)
    if not is_name(new):
        raise BadName(new)
    if new in entries:
        raise Taken(new)
    found = {}
    for name, (line, table) in entries.items():
        found[new if name == old else name] = (_with_name(line, old, new), table)
    return found


def _with_name(line, old, new):
    if line[0] != "of":
        return line
    return "of", line[1], tuple([new if name == old else name for name in line[2]])


def _changed(entries, name, line):
    """The entries with this line under the name, and the tables that follow from it."""
    _check_line(entries, line)
    hanging = _hanging(entries, name)
    for other in _names_in(line):
        if other == name or other in hanging:
            raise Ring(other)
    found = {other: entry for other, entry in entries.items() if other not in hanging}
    found[name] = (line, _table_of(line, entries))
    for other in hanging:
        _fill(found, entries, other)
    return found


def _fill(found, entries, name):
    """Add the entry of the name to those found, behind all on which it hangs."""
    if name not in found:
        line = entries[name][0]
        for other in line[2]:
            _fill(found, entries, other)
        found[name] = (line, _table_of(line, found))


def _change(entries, name, line):
    """The changed entries, and the names whose table is another one."""
    _check_there(entries, name)
    found = _changed(entries, name, line)
    return found, _unlike(entries, found, sorted(entries))


def _unlike(entries, found, names):
    """Those of the names whose table is another one in the entries found."""
    return tuple([name for name in names if entries[name][1] != found[name][1]])


def _swap(entries, name, line, seen):
    """As _change, if no name that is seen has another table then."""
    _check_there(entries, name)
    if seen is not None and not _fits_seen(entries, seen):
        raise BadSeen(seen)
    found = _changed(entries, name, line)
    unlike = _unlike(entries, found, sorted(entries) if seen is None else seen)
    if unlike != ():
        raise Differs(unlike[0], parting(entries[unlike[0]][1], found[unlike[0]][1]))
    return found, _unlike(entries, found, sorted(entries))


def _fits_seen(entries, seen):
    if not isinstance(seen, tuple) or not all([_is_there(entries, name) for name in seen]):
        return False
    return is_ascending(seen)


def _are_deeds(value):
    """Whether value is a tuple of deeds, as a batch takes them."""
    if not isinstance(value, tuple) or len(value) > _MOST_IN_BATCH:
        return False
    return all([_is_deed(item) for item in value])


def _is_deed(value):
    if not isinstance(value, tuple) or len(value) == 0 or not isinstance(value[0], str):
        return False
    return value[0] in _DEED_ITEMS and len(value) == _DEED_ITEMS[value[0]] + 1


def _done(entries, deed):
    """The entries behind the deed."""
    word, name = deed[0], deed[1]
    if word == "drop":
        return _drop(entries, name)
    if word == "rename":
        return _rename(entries, name, deed[2])
    if word == "put":
        return _put(entries, name, deed[2])[0]
    if word == "change":
        return _change(entries, name, deed[2])[0]
    return _swap(entries, name, deed[2], None)[0]


def _all_done(entries, deeds):
    """The entries behind all deeds in order; Rejected with the place of one that fails."""
    for place, deed in enumerate(deeds):
        try:
            entries = _done(entries, deed)
        except RoundError:
            raise Rejected(place) from None
    return entries


def _plain(entries, name):
    """The line of the name, with lines in the place of all names."""
    line = entries[name][0]
    if line[0] != "of":
        return line
    return "saying", line[1], tuple([_plain(entries, other) for other in line[2]])


class House:
    """Lines under names, and the deeds by which they came there."""

    def __init__(self):
        self._entries = {}
        # The entries ahead of each deed that stands, and behind each that can be done again.
        self._past = ()
        self._future = ()

    @property
    def names(self):
        """The ascending tuple of the names."""
        return tuple(sorted(self._entries))

    @property
    def deeds(self):
        """How many deeds stand."""
        return len(self._past)

    @property
    def undone(self):
        """How many deeds can be done again."""
        return len(self._future)

    def put(self, name, line):
        """Keep the line under a new name; its table."""
        self._check_room()
        entries, table = _put(self._entries, name, line)
        self._stand(entries)
        return table

    def drop(self, name):
        """Take the name and its line away, if nothing hangs on it."""
        self._check_room()
        self._stand(_drop(self._entries, name))

    def rename(self, old, new):
        """Give the line of the old name a new one, in all lines."""
        self._check_room()
        self._stand(_rename(self._entries, old, new))

    def change(self, name, line):
        """Keep another line under the name; the names whose tables are others now."""
        self._check_room()
        entries, unlike = _change(self._entries, name, line)
        self._stand(entries)
        return unlike

    def swap(self, name, line, seen=None):
        """Change, if nobody who sees these names, or all for None, can tell."""
        self._check_room()
        entries, unlike = _swap(self._entries, name, line, seen)
        self._stand(entries)
        return unlike

    def batch(self, deeds):
        """Do all these deeds as one, or none of them."""
        self._check_room()
        if not _are_deeds(deeds):
            raise BadDeeds()
        self._stand(_all_done(self._entries, deeds))

    def undo(self):
        """Take back the last deed; how many stand then."""
        if len(self._past) == 0:
            raise NothingToUndo()
        self._future = self._future + (self._entries,)
        self._entries = self._past[-1]
        self._past = self._past[:-1]
        return len(self._past)

    def redo(self):
        """Do the deed again that was taken back last; how many stand then."""
        if len(self._future) == 0:
            raise NothingToRedo()
        self._past = self._past + (self._entries,)
        self._entries = self._future[-1]
        self._future = self._future[:-1]
        return len(self._past)

    def _check_room(self):
        if len(self._past) >= MAX_DEEDS:
            raise Full()

    def _stand(self, entries):
        """Let a deed stand by which there are these entries."""
        self._past = self._past + (self._entries,)
        self._entries = entries
        self._future = ()

    def __getitem__(self, name):
        _check_there(self._entries, name)
        return self._entries[name][0]

    def table(self, name):
        """The table of the line under the name."""
        _check_there(self._entries, name)
        return self._entries[name][1]

    def tells(self, name, number):
        """Whether the line under the name tells the number."""
        return has(self.table(name), number)

    def hangs(self, name):
        """The ascending tuple of the names that hang on the name."""
        _check_there(self._entries, name)
        return _hanging(self._entries, name)

    def plain(self, name):
        """The line under the name as a maker, without names; TooDeep if that is none."""
        _check_there(self._entries, name)
        maker = _plain(self._entries, name)
        if maker_error(maker) is not None:
            raise TooDeep()
        return maker

    def alike(self):
        """The names with equal tables together, each in one tuple, all ascending."""
        groups = {}
        for name in sorted(self._entries):
            groups.setdefault(self._entries[name][1], []).append(name)
        return tuple(sorted([tuple(group) for group in groups.values()]))

    def __len__(self):
        return len(self._entries)

    def __contains__(self, value):
        return _is_there(self._entries, value)

    def __eq__(self, other):
        # Lines tell tables, so entries are equal if their lines are.
        return isinstance(other, House) and self._entries == other._entries

    def __str__(self):
        return f"{len(self._entries)} lines, {len(self._past)} deeds"

    def __iter__(self):
        raise TypeError("a house is not gone through; take its names")

    def copy(self):
        """A house that stands likewise and goes on by itself."""
        other = House()
        other._entries = self._entries
        other._past = self._past
        other._future = self._future
        return other

    def tried(self, function):
        """What the function returns of the house, which is as it was behind it."""
        entries, past, future = self._entries, self._past, self._future
        try:
            return function(self)
        finally:
            self._entries, self._past, self._future = entries, past, future

    def kept(self, function):
        """What the function returns; what it did to the house stays as one deed."""
        self._check_room()
        entries, past, future = self._entries, self._past, self._future
        try:
            result = function(self)
            found = self._entries
        finally:
            self._entries, self._past, self._future = entries, past, future
        self._stand(found)
        return result
