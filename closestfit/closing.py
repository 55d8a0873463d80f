"""Quarrels of a table, and how many further patterns it takes until it is clear."""

from closestfit.cases import want_numbers
from closestfit.errors import BadValue
from closestfit.forms import is_index
from closestfit.loading import loaded_table
from closestfit.quarreling import (found_roll, meets_of_all, quarrels_in, shows_count, shows_quarrel, told_count,
                                   told_quarrel)

MOST_PATTERNS = 8
MOST_COUNT = 300


def loaded(signature, kinds, table):
    """The store, and in it the patterns of a table of at most eight."""
    store, patterns = loaded_table(signature, kinds, table)
    if len(patterns) > MOST_PATTERNS:
        raise BadValue("table")
    return store, patterns


def want_several(patterns, numbers):
    want_numbers(patterns, numbers)
    if len(numbers) < 2:
        raise BadValue("numbers")


def want_count(count):
    if not is_index(count, MOST_COUNT + 1):
        raise BadValue("count")


def quarrels(signature, kinds, table):
    """The ascending tuple of the quarrels of the table."""
    store, patterns = loaded(signature, kinds, table)
    meets = meets_of_all(store, kinds, patterns)
    return tuple(quarrels_in(found_roll(store, kinds, patterns, meets)))


def needed(signature, kinds, table):
    """The tuple of the meets of the quarrels, in their order."""
    store, patterns = loaded(signature, kinds, table)
    meets = meets_of_all(store, kinds, patterns)
    found = quarrels_in(found_roll(store, kinds, patterns, meets))
    return tuple([store.write(meets[numbers]) for numbers in found])


def quarrel_evidence(signature, kinds, table, numbers):
    """The told evidence about the numbers."""
    store, patterns = loaded(signature, kinds, table)
    want_several(patterns, numbers)
    meets = meets_of_all(store, kinds, patterns)
    return told_quarrel(store, kinds, patterns, meets, numbers)


def accepts_quarrel(signature, kinds, table, numbers, value):
    """Whether the value is evidence of any of the four words about the numbers."""
    store, patterns = loaded(signature, kinds, table)
    want_several(patterns, numbers)
    meets = meets_of_all(store, kinds, patterns)
    return shows_quarrel(store, kinds, patterns, meets, numbers, value)


def count_evidence(signature, kinds, table, count):
    """The told evidence about the count."""
    store, patterns = loaded(signature, kinds, table)
    want_count(count)
    meets = meets_of_all(store, kinds, patterns)
    return told_count(store, kinds, patterns, meets, count)


def accepts_count(signature, kinds, table, count, value):
    """Whether the value is evidence of either word about the count."""
    store, patterns = loaded(signature, kinds, table)
    want_count(count)
    meets = meets_of_all(store, kinds, patterns)
    return shows_count(store, kinds, patterns, meets, count, value)
