"""Notes of sayings: the tables of all that stands in them, and what follows from these."""

from leastmakers.counts import is_endless
from leastmakers.sayings import all_truths, truth
from leastmakers.tables import ALL, parting


def notes(saying, tables):
    """The tables of all sayings in the saying, and of itself, each behind those in it."""
    return all_truths(saying, tables)


def always(saying, tables):
    """Whether the saying is so of all numbers."""
    return truth(saying, tables) == ALL


def often(saying, tables):
    """Whether the saying is so of infinitely many numbers."""
    return is_endless(truth(saying, tables))


def are_same(saying, other, tables):
    """Whether both sayings are so of the same numbers."""
    return truth(saying, tables) == truth(other, tables)


def parted_at(saying, other, tables):
    """The least number of which just one of both sayings is so; None if there is none."""
    return parting(truth(saying, tables), truth(other, tables))
