"""Texts of tables, makers and lines, and back again."""

from leastmakers.bounds import MAX_HEAD, MAX_TURN
from leastmakers.common import is_name, is_written
from leastmakers.errors import BadText
from leastmakers.makers import maker_error
from leastmakers.sayings import is_over, saying_error

# Integers in texts are up to 999999.
_MOST_FIGURES = 6
# No line has parts that stand in so many others: such texts are not put together.
_TOO_DEEP = 40

# What is one word that may be any word of its form: nothing is told by which word it is.
_ALONE = ("number", "head", "turn", "name")

# What stands behind each word of a text, by what is wanted there.
_BEHIND = {
    ("line", "of"): ("saying", "names"),
    ("maker", "table"): ("head", "turn"),
    ("maker", "watches"): ("watches",),
    ("maker", "coins"): ("free", "bounded"),
    ("maker", "web"): ("spots", "web steps", "ends"),
    ("maker", "game"): ("takes",),
    ("maker", "book"): ("book names", "rules", "number"),
    ("maker", "program"): ("program steps", "answer"),
    ("maker", "row"): ("number", "factors", "number"),
    ("maker", "saying"): ("saying", "makers"),
    ("saying", "told"): ("number", "number"),
    ("saying", "not"): ("saying",),
    ("saying", "and"): ("saying", "saying"),
    ("saying", "or"): ("saying", "saying"),
    ("saying", "next"): ("number", "saying"),
    ("saying", "from"): ("saying",),
    ("saying", "some"): ("saying",),
    ("saying", "till"): ("saying", "saying"),
    ("saying", "ahead"): ("saying",),
    ("saying", "since"): ("saying", "saying"),
    ("step", "add"): ("number", "number"),
    ("step", "take"): ("number", "number", "number"),
    ("step", "rest"): ("rest",),
    ("step", "end"): ("ending",),
    ("ending", "yes"): (), ("ending", "no"): (),
    ("answer", "yes"): (), ("answer", "no"): (), ("answer", "never"): (),
}

# Words that tell how many there are of what: from, to, and what stands there for each.
_COUNTS = {
    "watches": (1, 8, ("number", "number")),
    "free": (0, 6, ("number",)),
    "bounded": (0, 6, ("number", "number")),
    "spots": (1, 12, ()),
    "web steps": (0, 144, ("number", "number")),
    "ends": (0, 12, ("number",)),
    "takes": (1, 8, ("number",)),
    "book names": (1, 3, ()),
    "rules": (0, 10, ("number", "number", "rule names")),
    "rule names": (0, 2, ("number",)),
    "program steps": (1, 6, ("step",)),
    "rest": (2, 6, ("number",)),
    # So many factors, and as many numbers to begin with.
    "factors": (1, 4, ("number", "number")),
    "makers": (1, 3, ("maker",)),
    "names": (1, 3, ("name",)),
}


def table_text(table):
    """The text of the table as it is passed."""
    head, turn = table
    return ("-" if head == "" else head) + " " + turn


def maker_text(maker):
    """The text of the maker."""
    return " ".join(_maker_words(maker))


def line_text(line):
    """The text of the line."""
    if line[0] == "of":
        return " ".join(["of"] + _flat(line[1]) + _counted(line[2]))
    return maker_text(line)


def _maker_words(maker):
    kind, item = maker[0], maker[1]
    if kind == "table":
        return [kind, table_text(item)]
    if kind in ("watches", "game"):
        return [kind] + _counted(item)
    if kind == "coins":
        return [kind] + _counted(item[0]) + _counted(item[1])
    if kind == "web":
        return [kind, str(item[0])] + _counted(item[1]) + _counted(item[2])
    if kind == "book":
        return [kind] + _book_words(item) + [str(maker[2])]
    if kind == "program":
        return [kind] + _counted(item) + [maker[2]]
    if kind == "row":
        return [kind, str(item[0])] + _counted(item[1]) + _flat(item[2]) + [str(maker[2])]
    words = [kind] + _flat(item) + [str(len(maker[2]))]
    for part in maker[2]:
        words = words + _maker_words(part)
    return words


def _book_words(book):
    many, rules = book
    words = [str(many), str(len(rules))]
    for name, letters, names in rules:
        words = words + [str(name), str(letters)] + _counted(names)
    return words


def _counted(items):
    """The words for how many items there are, and for these."""
    return [str(len(items))] + _flat(items)


def _flat(item):
    """The words for all that stands in the item, in order."""
    if not isinstance(item, tuple):
        return [str(item)]
    words = []
    for part in item:
        words = words + _flat(part)
    return words


def read_table(value):
    """The table with this text; BadText if there is none."""
    head, turn = _read_all(value, ("head", "turn"))
    return head, turn


def read_maker(value):
    """The maker with this text; BadText if there is none."""
    maker = _read_all(value, ("maker",))[0]
    if maker_error(maker) is not None:
        raise BadText(None)
    return maker


def read_line(value):
    """The line with this text; BadText if there is none."""
    line = _read_all(value, ("line",))[0]
    if not _is_line(line):
        raise BadText(None)
    return line


def _is_line(line):
    """Whether what was read as a line is one, by any names."""
    if line[0] != "of":
        return maker_error(line) is None
    return saying_error(line[1]) is None and is_over(line[1], len(line[2]))


def _read_all(value, wanted):
    """The values of the text, in which this is wanted."""
    if not isinstance(value, str):
        raise BadText(None)
    words = value.split(" ")
    _check_form(words, wanted)
    left = words[::-1]
    return [_read(kind, left) for kind in wanted]


def _check_form(words, wanted):
    """Raise BadText if the words have not the form of what is wanted, or are far too deep."""
    waiting = [(kind, 0) for kind in wanted[::-1]]
    deepest = 0
    for place, word in enumerate(words):
        if len(waiting) == 0:
            raise BadText(place)
        kind, deep = waiting.pop()
        behind = _behind(kind, word)
        if behind is None:
            raise BadText(place)
        deepest = max(deepest, deep)
        waiting.extend([(part, deep + 1) for part in behind[::-1]])
    if len(waiting) > 0:
        raise BadText(len(words))
    if deepest > _TOO_DEEP:
        raise BadText(None)


def _behind(kind, word):
    """What is wanted behind the word; None if it can't stand where this kind is wanted."""
    if kind in _COUNTS:
        least, most, parts = _COUNTS[kind]
        if not is_written(word, _MOST_FIGURES) or not least <= int(word) <= most:
            return None
        return parts * int(word)
    if kind == "line" and word != "of":
        return _behind("maker", word)
    if kind in _ALONE:
        return () if _fits_alone(kind, word) else None
    return _BEHIND.get((kind, word))


def _fits_alone(kind, word):
    """Whether the word has the form of this kind, behind which nothing is wanted."""
    if kind == "number":
        return is_written(word, _MOST_FIGURES)
    if kind == "name":
        return is_name(word)
    if kind == "head":
        return word == "-" or _is_row(word, MAX_HEAD)
    return _is_row(word, MAX_TURN)


def _is_row(word, most):
    return 1 <= len(word) <= most and word.count("0") + word.count("1") == len(word)


def _read(kind, left):
    """The value of what is wanted, from the words that are left, the next one at their end."""
    word = left.pop()
    if kind in _COUNTS:
        parts = _COUNTS[kind][2]
        return tuple([_group(parts, left) for _ in range(int(word))]) if parts else int(word)
    if kind in _ALONE:
        return _value_alone(kind, word)
    items = [_read(part, left) for part in _behind(kind, word)]
    # A word means what it says only where its own kind is wanted: any word can be a name.
    if kind in ("maker", "line"):
        return _line_of(word, items)
    if kind == "step":
        return _step_of(word, items)
    return tuple([word] + items) if kind == "saying" else word


def _value_alone(kind, word):
    """The value of the word of this kind, behind which nothing is wanted."""
    if kind == "number":
        return int(word)
    return "" if kind == "head" and word == "-" else word


def _step_of(word, items):
    """The step of a program with this word and the items that stand in its text."""
    if word == "rest":
        return word, len(items[0]), items[0]
    return tuple([word] + items)


def _group(parts, left):
    """The values of the parts: alone if it is one part, otherwise as a tuple."""
    found = [_read(part, left) for part in parts]
    return found[0] if len(found) == 1 else tuple(found)


def _line_of(word, items):
    """The maker or line of this kind with the items that stand in its text."""
    if word == "book":
        return word, (items[0], items[1]), items[2]
    if word == "row":
        return word, (items[0],) + _halves(items[1]), items[2]
    if word in ("table", "coins", "web"):
        return word, tuple(items)
    return tuple([word] + items)


def _halves(pairs):
    """The factors and the begin of a row, which were read two by two."""
    numbers = _joined(pairs)
    return numbers[:len(pairs)], numbers[len(pairs):]


def _joined(pairs):
    return tuple([number for pair in pairs for number in pair])
