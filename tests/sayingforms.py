"""Sayings that the tests share, and a plain look at the numbers of which they are so."""

import random

from reckoning import longer, shared_turn, sign

WORDS = {"not": 1, "and": 2, "or": 2, "next": 1, "from": 1, "some": 1, "till": 2, "ahead": 1, "since": 2}
SHOWN = ("some", "till", "ahead", "since", "from")

# One saying, S, for the items of others, and one that is over two tables.
S = ("told", 0, 0)
U = ("told", 1, 0)

# Tables in least form: finite, empty, full and endless ones.
TABLES = [("", "0"), ("", "1"), ("", "01"), ("", "10"), ("0001", "0"), ("1110", "1"), ("1", "0"), ("0", "1"),
          ("", "011"), ("01", "100"), ("0110", "01"), ("00", "0001"), ("101", "0"), ("10010", "1"), ("11", "0")]


def inner(saying):
    """The sayings behind the word of the saying."""
    if saying[0] == "told":
        return ()
    return saying[2:] if saying[0] == "next" else saying[1:]


def depth(saying):
    return 1 + max([0] + [depth(part) for part in inner(saying)])


def in_order(saying):
    """All sayings in it, and itself, each behind those that stand in it."""
    found = []
    for part in inner(saying):
        found += in_order(part)
    return found + [saying]


def highest(saying):
    """The greatest index in the saying."""
    return max(part[1] for part in in_order(saying) if part[0] == "told")


def size_of(saying, leasts):
    """The lengths that bound truth, by least tables."""
    turn = shared_turn(*leasts)
    back = sum(part[0] in ("ahead", "since") for part in in_order(saying))
    return max(len(head) for head, _ in leasts) + back * turn, turn


def looks(saying, tables, many, reach):
    """Of which of the first so many numbers it is so; nothing new comes behind reach more."""
    word = saying[0]
    if word == "told":
        return [sign(tables[saying[1]], n + saying[2]) == "1" for n in range(many)]
    if word == "next":
        return looks(saying[2], tables, many + saying[1], reach)[saying[1]:]
    far = many + reach if word in ("from", "some", "till") else many
    parts = [looks(part, tables, far, reach) for part in saying[1:]]
    one, other = parts[0], parts[-1]
    if word == "not":
        return [not so for so in one]
    if word == "and":
        return [so and also for so, also in zip(one, other)]
    if word == "or":
        return [so or also for so, also in zip(one, other)]
    if word == "from":
        return [all(one[n:n + reach]) for n in range(many)]
    if word == "some":
        return [any(one[n:n + reach]) for n in range(many)]
    if word == "ahead":
        return [any(one[:n]) for n in range(many)]
    if word == "till":
        return [any(other[m] and all(one[n:m]) for m in range(n, n + reach)) for n in range(many)]
    return [any(other[m] and all(one[m + 1:n + 1]) for m in range(n + 1)) for n in range(many)]


def plain_truths(saying, tables, many):
    head, turn = size_of(saying, tables)
    return looks(saying, tables, many, head + turn + 1)


def random_saying(picker, deep, over):
    """A saying of at most so many words one in another, over so many tables."""
    if deep == 1 or picker.random() < 0.15:
        return ("told", picker.randrange(over), picker.choice((0, 0, 0, 1, 2, 5)))
    word = picker.choice(tuple(WORDS))
    parts = tuple(random_saying(picker, deep - 1, over) for _ in range(WORDS[word]))
    return (word, picker.choice((0, 1, 2, 3, 7)), *parts) if word == "next" else (word, *parts)


def one_in_another():
    """Sayings of each word alone, and of each word in each other one."""
    singles = [("next", 3, S) if word == "next" else (word, S, U)[:many + 1] for word, many in WORDS.items()]
    found = [S, ("told", 1, 4)] + singles
    for word, many in WORDS.items():
        for single in singles:
            if word == "next":
                found.append(("next", 2, single))
            elif many == 1:
                found.append((word, single))
            else:
                found += [(word, single, ("told", 1, 1)), (word, ("told", 0, 1), single)]
    return found


def cases(seed, times, deep=4):
    """Pairs of a saying and its tables, one to three, some of them not least."""
    picker = random.Random(seed)
    found = [(saying, tuple(picker.choice(TABLES) for _ in range(picker.choice((2, 3)))))
             for saying in one_in_another()]
    for _ in range(times):
        over = picker.choice((1, 2, 3))
        saying = random_saying(picker, picker.randint(2, deep), over)
        if len(in_order(saying)) <= 30:
            found.append((saying, tuple(picker.choice(TABLES) for _ in range(over))))
    return found


def other_forms(picker, tables):
    """The same sets, told by tables that are not least."""
    return tuple(longer(table, picker.randrange(4), picker.choice((1, 2, 3))) for table in tables)
