"""Makers of all nine kinds that the tests share, and what is no maker."""

from programforms import P, Q, U
from reckoning import VALUES

from leastmakers.books import derived
from leastmakers.coins import paid
from leastmakers.games import lost
from leastmakers.programs import ends
from leastmakers.rows import reads
from leastmakers.sayings import truth
from leastmakers.watches import held
from leastmakers.webs import walked

KINDS = ("table", "watches", "coins", "web", "game", "book", "program", "row", "saying")

# All words that a text knows: each of them can be a name of a house, too.
TEXT_WORDS = KINDS + ("of", "told", "not", "and", "or", "next", "from", "some", "till", "ahead", "since",
                      "add", "take", "rest", "end", "yes", "no", "never")

WEB = (3, ((0, 1), (1, 2), (2, 0), (2, 1)), (0,))
LASSO = (4, ((0, 1), (0, 3), (1, 2), (2, 1)), (2,))
BOOK = (1, ((0, 1, ()), (0, 3, (0, 0))))
BOOK_OF_TWO = (2, ((0, 0, (1, 1)), (1, 2, ()), (1, 3, (1,))))
GREAT_BOOK = (3, ((0, 3, (1, 2)), (1, 0, ()), (2, 0, ())))
FIB = (2, (1, 1), (0, 1))
ADDING = (("add", 1, 0),)

S = ("told", 0, 0)
TABLE = ("table", ("", "01"))
COINS = ("coins", ((3, 5), ()))
WATCHES = ("watches", ((0, 2), (1, 3)))

# Makers in which no others stand, some of each kind.
PLAIN = [
    TABLE, ("table", ("", "0")), ("table", ("", "1")), ("table", ("0001", "0")), ("table", ("0110", "01")),
    WATCHES, ("watches", ((5, 2),)), ("watches", ((3, 4), (3, 4), (0, 6))), ("watches", ((200, 60),)),
    COINS, ("coins", ((6,), ((4, 1),))), ("coins", ((), ((2, 2),))), ("coins", ((2, 5), ())),
    ("coins", ((), ((1, 20), (30, 3)))),
    ("web", WEB), ("web", LASSO), ("web", (1, (), ())), ("web", (1, ((0, 0),), (0,))), ("web", (2, (), (0, 1))),
    ("game", (2,)), ("game", (2, 3)), ("game", (1, 2, 3, 4, 5, 6, 7, 8)), ("game", (3, 5, 8)),
    ("book", BOOK, 0), ("book", BOOK_OF_TWO, 0), ("book", BOOK_OF_TWO, 1), ("book", (3, ()), 2),
    ("program", P, "yes"), ("program", P, "no"), ("program", P, "never"), ("program", Q, "yes"),
    ("program", Q, "never"), ("program", U, "no"), ("program", ADDING, "never"), ("program", ADDING, "yes"),
    ("row", FIB, 0), ("row", FIB, 1), ("row", (4, (2,), (1,)), 2), ("row", (9, (1, 0), (4, 7)), 7),
]

NOT_EVEN = ("saying", ("not", S), (("game", (1,)),))
BOTH = ("saying", ("and", S, ("told", 1, 2)), (COINS, WATCHES))
THREE = ("saying", ("till", ("told", 0, 1), ("or", ("told", 1, 0), ("told", 2, 20))),
         (("web", WEB), ("book", BOOK, 0), ("program", P, "no")))
DEEP = ("saying", ("since", S, ("told", 1, 0)), (NOT_EVEN, ("saying", ("next", 3, S), (THREE[2][0], TABLE))))

SAYINGS = [
    NOT_EVEN, BOTH, THREE, DEEP, ("saying", ("ahead", ("told", 2, 3)), (TABLE, COINS, ("row", FIB, 1))),
    ("saying", ("from", ("or", S, ("not", S))), (("game", (2, 3)),)),
    ("saying", ("some", S), (BOTH, ("table", ("0001", "0")))),
    ("saying", ("and", S, ("not", S)), (COINS, COINS)),
]
ALL_MAKERS = PLAIN + SAYINGS


def plain_made(maker):
    """The table, by the function that the point on makers names for the kind."""
    kind = maker[0]
    if kind == "saying":
        return truth(maker[1], tuple(plain_made(part) for part in maker[2]))
    if kind == "book":
        return derived(maker[1])[maker[2]]
    if kind == "program":
        return ends(maker[1])[("yes", "no", "never").index(maker[2])]
    if kind == "row":
        return reads(maker[1], maker[2])
    if kind == "table":
        return maker[1]
    return {"watches": held, "coins": paid, "web": walked, "game": lost}[kind](maker[1])


# Of each kind what is wrong in something behind the word, and so is told by this word.
WRONG = {
    "table": [("table", thing) for thing in VALUES if thing != ("", "0")] + [
        ("table", ("", "1010")), ("table", ("1", "1")), ("table", ("01", "0101")), ("table", ["", "01"]),
        ("table", ("", "")), ("table", ("0" * 5001, "1")), ("table", ("", "2"))],
    "watches": [("watches", thing) for thing in VALUES if thing not in (((0, 1),), ((0, 1), (2, 3)))] + [
        ("watches", ((0, 2), (1, 61))), ("watches", ((201, 2),)), ("watches", ((0, 2),) * 9), ("watches", ((0, 0),)),
        ("watches", [(0, 2)]), ("watches", ((True, 2),))],
    "coins": [("coins", thing) for thing in VALUES] + [
        ("coins", ((5, 3), ())), ("coins", ((31,), ())), ("coins", ((3,), ((3, 1),))), ("coins", ((3,), ((4, 21),))),
        ("coins", ((1, 2, 3, 4, 5, 6, 7), ())), ("coins", ((), ())), ("coins", ((3, 5),))],
    "web": [("web", thing) for thing in VALUES] + [
        ("web", (0, (), ())), ("web", (13, (), ())), ("web", (2, ((0, 2),), ())), ("web", (2, (), (2,))),
        ("web", (2, ((1, 0), (0, 1)), ())), ("web", (2, ()))],
    "game": [("game", thing) for thing in VALUES] + [
        ("game", (0,)), ("game", (9,)), ("game", (2, 2)), ("game", (3, 2)), ("game", ()), ("game", [2])],
    "book": [("book", thing, 0) for thing in VALUES] + [("book", BOOK, thing) for thing in VALUES if thing != 0] + [
        ("book", BOOK, False), ("book", BOOK_OF_TWO, 2), ("book", BOOK_OF_TWO, -1), ("book", BOOK_OF_TWO, True),
        ("book", (4, ()), 0), ("book", (1, ((0, 7, ()),)), 0), ("book", (1, ((0, 1, (1,)),)), 0)],
    "program": [("program", thing, "yes") for thing in VALUES] + [
        ("program", P, thing) for thing in VALUES + ("Yes", "maybe", ("yes",), "yes ", "")] + [
        ("program", (("add", 5, 0),), "yes"), ("program", (), "no"), ("program", (("end", "never"),), "never"),
        ("program", (("rest", 4, (0,) * 4), ("rest", 6, (0,) * 6)), "yes")],
    "row": [("row", thing, 0) for thing in VALUES] + [("row", FIB, thing) for thing in VALUES
                                                       if thing not in (0, 1)] + [
        ("row", FIB, 2), ("row", FIB, True), ("row", FIB, False), ("row", (9, (1,), (8,)), 9),
        ("row", (10, (1,), (8,)), 0), ("row", (9, (1,) * 4, (8,) * 4), 0), ("row", (2, (1,), (2,)), 0)],
    "saying": [("saying", S, thing) for thing in VALUES if type(thing) is not tuple or not 1 <= len(thing) <= 3] + [
        ("saying", thing, (TABLE,)) for thing in VALUES] + [
        ("saying", ("told", 1, 0), (TABLE,)), ("saying", ("told", 2, 0), (TABLE, TABLE)), ("saying", S, ()),
        ("saying", S, (TABLE,) * 4), ("saying", S, [TABLE]), ("saying", ("told", 0, 21), (TABLE,)),
        ("saying", ("and", S, ("not", ("told", 3, 0))), (TABLE,) * 3)],
}

# What is of no kind: other words, other numbers of items, what is no tuple.
NO_KIND = [value for value in VALUES] + [
    ("tables", ("", "01")), ("Table", ("", "01")), ("table",), ("table", ("", "01"), 0), ["table", ("", "01")],
    ("game", (2,), 0), ("web", WEB, 0), ("coins", ((3, 5), ()), ()), ("coins", (3, 5), (), ()), ("watches",),
    ("book", BOOK), ("book", BOOK, 0, 0), ("program", P), ("program", P, "yes", "no"), ("row", 5), ("row", FIB),
    ("row", FIB, 0, 0), ("saying", S), ("saying", S, (TABLE,), ()), (("table",), ("", "01")), ("of", S, ("x",)),
    (None, ("", "01")), (True, 1), (["table"], 1), ({}, 1),
]
