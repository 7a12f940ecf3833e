"""A shell that does deeds on a house, and answers looks at it, by lines of words."""

from leastmakers.common import is_written
from leastmakers.errors import RoundError
from leastmakers.tables import has, parting
from leastmakers.texts import line_text, read_line, table_text

_MOST_FIGURES = 18
_MOST_IN_HISTORY = 10

# How many words stand behind each word of a line; for those with a text at least so many.
_WORDS_WITH_TEXT = {"put": 2, "change": 2, "swap": 2}
_WORDS_BEHIND = {"drop": 1, "rename": 2, "undo": 0, "redo": 0, "names": 0, "text": 1, "table": 1,
                 "tells": 2, "hangs": 1, "alike": 0, "parted": 2}


class Shell:
    """Answers lines, and does on its house what they say."""

    def __init__(self, house):
        self._house = house
        self._history = ()

    @property
    def history(self):
        """The last pairs (line, answer), line None for what was no string."""
        return self._history

    def say(self, line):
        """The answer to the line."""
        answer = "what"
        if isinstance(line, str):
            try:
                answer = self._answer(line.split(" "))
            except RoundError as error:
                answer = "no " + error.__class__.__name__
        pair = (line if isinstance(line, str) else None, answer)
        self._history = (self._history + (pair,))[-_MOST_IN_HISTORY:]
        return answer

    def _answer(self, words):
        word, items = words[0], words[1:]
        if word in _WORDS_WITH_TEXT and len(items) >= _WORDS_WITH_TEXT[word]:
            self._do_with_text(word, items[0], read_line(" ".join(items[1:])))
            return f"ok {self._house.deeds}"
        if word not in _WORDS_BEHIND or len(items) != _WORDS_BEHIND[word]:
            return "what"
        if word in ("drop", "rename", "undo", "redo"):
            self._do(word, items)
            return f"ok {self._house.deeds}"
        if word in ("names", "alike"):
            return self._told_of_all(word)
        if word == "tells":
            return self._told_of_number(items[0], items[1])
        if word == "parted":
            return self._told_of_two(items[0], items[1])
        return self._told_of_one(word, items[0])

    def _do_with_text(self, word, name, line):
        if word == "put":
            self._house.put(name, line)
        elif word == "change":
            self._house.change(name, line)
        else:
            self._house.swap(name, line)

    def _do(self, word, items):
        if word == "drop":
            self._house.drop(items[0])
        elif word == "rename":
            self._house.rename(items[0], items[1])
        elif word == "undo":
            self._house.undo()
        else:
            self._house.redo()

    def _told_of_all(self, word):
        if word == "names":
            return _listed(self._house.names, " ")
        return _listed([" ".join(names) for names in self._house.alike()], " / ")

    def _told_of_one(self, word, name):
        if word == "text":
            return line_text(self._house[name])
        if word == "table":
            return table_text(self._house.table(name))
        return _listed(self._house.hangs(name), " ")

    def _told_of_number(self, name, number):
        if not is_written(number, _MOST_FIGURES):
            return "what"
        return "yes" if self._house.tells(name, int(number)) else "no"

    def _told_of_two(self, one, other):
        left, right = self._house.table(one), self._house.table(other)
        number = parting(left, right)
        if number is None:
            return "alike"
        return f"{number} {one if has(left, number) else other}"


def _listed(items, between):
    return "none" if len(items) == 0 else between.join(items)
