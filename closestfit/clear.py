"""Tables that are clear or complete, patterns that are ever chosen, and tables that are alike."""

from closestfit.alikeness import found_alike, needed_numbers, shows_alike, want_clear
from closestfit.cases import want_number
from closestfit.clearing import (found_chosen, found_clear, found_complete, shows_chosen, shows_clear, shows_complete,
                                 with_values)
from closestfit.loading import loaded_table, loaded_tables


def is_clear(signature, kinds, table):
    """Whether the table is clear."""
    store, patterns = loaded_table(signature, kinds, table)
    return found_clear(store, kinds, patterns)[0] == "clear"


def clear_evidence(signature, kinds, table):
    """The told evidence that the table is clear, or that it is not."""
    store, patterns = loaded_table(signature, kinds, table)
    return with_values(store, kinds, found_clear(store, kinds, patterns), "two")


def accepts_clear(signature, kinds, table, value):
    """Whether the value is evidence of either word."""
    store, patterns = loaded_table(signature, kinds, table)
    return shows_clear(store, kinds, patterns, value)


def is_complete(signature, kinds, table):
    """Whether the table is complete."""
    store, patterns = loaded_table(signature, kinds, table)
    return found_complete(store, kinds, patterns)[0] == "complete"


def complete_evidence(signature, kinds, table):
    """The told evidence that the table is complete, or that it is not."""
    store, patterns = loaded_table(signature, kinds, table)
    return with_values(store, kinds, found_complete(store, kinds, patterns), "gap")


def accepts_complete(signature, kinds, table, value):
    """Whether the value is evidence of either word."""
    store, patterns = loaded_table(signature, kinds, table)
    return shows_complete(store, kinds, patterns, value)


def is_ever_chosen(signature, kinds, table, number):
    """Whether the number is the choice at some values."""
    store, patterns = loaded_table(signature, kinds, table)
    want_number(patterns, number)
    return found_chosen(store, kinds, patterns, number)[0] == "chosen"


def chosen_evidence(signature, kinds, table, number):
    """The told evidence that the number is ever chosen, or that it is not."""
    store, patterns = loaded_table(signature, kinds, table)
    want_number(patterns, number)
    return with_values(store, kinds, found_chosen(store, kinds, patterns, number), "chosen")


def accepts_chosen(signature, kinds, table, number, value):
    """Whether the value is evidence of either word."""
    store, patterns = loaded_table(signature, kinds, table)
    want_number(patterns, number)
    return shows_chosen(store, kinds, patterns, number, value)


def needed_part(signature, kinds, table):
    """The table of the patterns that are ever chosen, of a table that is clear."""
    store, patterns = loaded_table(signature, kinds, table)
    return tuple([table[number] for number in needed_numbers(store, kinds, patterns)])


def are_alike(signature, kinds, table, other):
    """Whether two clear tables have the same choice, or none, at all values."""
    store, patterns, others = loaded_tables(signature, kinds, table, other)
    return found_alike(store, kinds, patterns, others)[0] == "alike"


def alike_evidence(signature, kinds, table, other):
    """The told evidence that two clear tables are alike, or that they are not."""
    store, patterns, others = loaded_tables(signature, kinds, table, other)
    word, *found = found_alike(store, kinds, patterns, others)
    if word == "unlike":
        _, values = with_values(store, kinds, found[0], "chosen")
        return ("unlike", values)
    ones, twos = [tuple([with_values(store, kinds, item, "chosen") for item in row]) for row in found]
    return ("alike", ones, twos)


def accepts_alike(signature, kinds, table, other, value):
    """Whether the value is evidence of either word about two clear tables."""
    store, patterns, others = loaded_tables(signature, kinds, table, other)
    want_clear(store, kinds, patterns)
    want_clear(store, kinds, others)
    return shows_alike(store, kinds, patterns, others, value)
