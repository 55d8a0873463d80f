"""Tables of patterns, their answers at values, and numbers that are fixed for a case."""

from closestfit.cases import read_table, want_number, wanted_case, wanted_table
from closestfit.checks import want_kinds, wanted_shapes, wanted_values
from closestfit.choosing import answer, matching_numbers, shows_choice, told_choice_evidence
from closestfit.fixing import is_fixed_number, shows_fixed, told_fixed_evidence
from closestfit.terms import Terms


def is_table(signature, kinds, value):
    """Whether the value is a table of the kinds."""
    shapes = wanted_shapes(signature)
    want_kinds(shapes, kinds)
    return read_table(shapes, kinds, value) is not None


def loaded(signature, kinds, table, values):
    """The store, and in it the patterns and the values."""
    shapes = wanted_shapes(signature)
    want_kinds(shapes, kinds)
    patterns = wanted_table(shapes, kinds, table)
    value_rows = wanted_values(shapes, kinds, values)
    store = Terms(shapes)
    return store, [store.load(pattern) for pattern in patterns], store.load_values(value_rows)


def matching(signature, kinds, table, values):
    """The numbers of all patterns that match the values."""
    store, patterns, nodes = loaded(signature, kinds, table, values)
    return matching_numbers(store, patterns, nodes)


def choice_of(signature, kinds, table, values):
    """The answer of the table at the values: the choice, "none", or ("two", i, j)."""
    store, patterns, nodes = loaded(signature, kinds, table, values)
    return answer(store, patterns, nodes)


def choice_evidence(signature, kinds, table, values):
    """The told evidence of the answer."""
    store, patterns, nodes = loaded(signature, kinds, table, values)
    return told_choice_evidence(store, patterns, nodes)


def accepts_choice(signature, kinds, table, values, value):
    """Whether the value is evidence of one of the three words."""
    store, patterns, nodes = loaded(signature, kinds, table, values)
    return shows_choice(store, patterns, nodes, value)


def loaded_case(signature, kinds, table, case, number):
    """The store, and in it the patterns and the case."""
    shapes = wanted_shapes(signature)
    want_kinds(shapes, kinds)
    patterns = wanted_table(shapes, kinds, table)
    rows = wanted_case(shapes, kinds, case, "case")
    want_number(patterns, number)
    store = Terms(shapes)
    return store, [store.load(pattern) for pattern in patterns], store.load(rows)


def is_fixed(signature, kinds, table, case, number):
    """Whether the number is fixed for the case."""
    store, patterns, nodes = loaded_case(signature, kinds, table, case, number)
    return is_fixed_number(store, kinds, patterns, nodes, number)


def fixed_evidence(signature, kinds, table, case, number):
    """Evidence that the number is fixed for the case, or that it is not."""
    store, patterns, nodes = loaded_case(signature, kinds, table, case, number)
    return told_fixed_evidence(store, kinds, patterns, nodes, number)


def accepts_fixed(signature, kinds, table, case, number, value):
    """Whether the value is evidence of either word."""
    store, patterns, nodes = loaded_case(signature, kinds, table, case, number)
    return shows_fixed(store, kinds, patterns, nodes, number, value)
