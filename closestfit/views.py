"""Parts of tables, what a table chooses in a case, and tables that answer alike in a case."""

from closestfit.cases import want_number, wanted_case, wanted_table
from closestfit.checks import want_kinds, wanted_shapes
from closestfit.errors import BadValue
from closestfit.forms import are_ascending_indexes
from closestfit.loading import loaded_table
from closestfit.terms import Terms
from closestfit.viewing import (found_alike_in, found_chosen_in, shows_alike_in, shows_chosen_in, told_alike_in,
                                told_chosen_in)


def part_of(signature, kinds, table, view):
    """The table of the patterns with these numbers."""
    loaded_table(signature, kinds, table)
    if not are_ascending_indexes(view, len(table)):
        raise BadValue("view")
    return tuple([table[number] for number in view])


def loaded(signature, kinds, table, case):
    """The store, and in it the patterns and the case."""
    store, patterns = loaded_table(signature, kinds, table)
    return store, patterns, store.load(wanted_case(store.shapes, kinds, case, "case"))


def loaded_two(signature, kinds, one, other, case):
    """The store, and in it the patterns of both tables and the case."""
    shapes = wanted_shapes(signature)
    want_kinds(shapes, kinds)
    tables = [wanted_table(shapes, kinds, one, "one"), wanted_table(shapes, kinds, other, "other")]
    rows = wanted_case(shapes, kinds, case, "case")
    store = Terms(shapes)
    ones, others = [[store.load(pattern) for pattern in table] for table in tables]
    return store, ones, others, store.load(rows)


def chosen_in(signature, kinds, table, case):
    """The numbers of the table that are chosen in the case."""
    store, patterns, nodes = loaded(signature, kinds, table, case)
    found = [found_chosen_in(store, kinds, patterns, nodes, number)[0] for number in range(len(patterns))]
    return tuple([number for number, word in enumerate(found) if word == "chosen"])


def chosen_in_evidence(signature, kinds, table, case, number):
    """The told evidence that the number is chosen in the case, or that it is not."""
    store, patterns, nodes = loaded(signature, kinds, table, case)
    want_number(patterns, number)
    return told_chosen_in(store, kinds, patterns, nodes, number)


def accepts_chosen_in(signature, kinds, table, case, number, value):
    """Whether the value is evidence of any of the three words."""
    store, patterns, nodes = loaded(signature, kinds, table, case)
    want_number(patterns, number)
    return shows_chosen_in(store, kinds, patterns, nodes, number, value)


def alike_in(signature, kinds, one, other, case):
    """Whether the two tables answer alike in the case."""
    store, ones, others, nodes = loaded_two(signature, kinds, one, other, case)
    return found_alike_in(store, kinds, ones, others, nodes)[0] == "alike"


def alike_in_evidence(signature, kinds, one, other, case):
    """The told evidence that the two tables answer alike in the case, or that they do not."""
    store, ones, others, nodes = loaded_two(signature, kinds, one, other, case)
    return told_alike_in(store, kinds, ones, others, nodes)


def accepts_alike_in(signature, kinds, one, other, case, value):
    """Whether the value is evidence of either word."""
    store, ones, others, nodes = loaded_two(signature, kinds, one, other, case)
    return shows_alike_in(store, kinds, ones, others, nodes, value)
