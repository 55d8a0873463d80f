"""Splits of cases, and whether patterns cover a case."""

from closestfit.cases import want_numbers, wanted_case, wanted_table
from closestfit.checks import want_kinds, wanted_shapes
from closestfit.covering import covers, shows_cover, told_cover_evidence
from closestfit.errors import BadValue
from closestfit.forms import is_integer
from closestfit.splits import parts_of_split
from closestfit.terms import Terms


def split_case(signature, kinds, case, variable):
    """The tuple of the parts of the split of the case at the variable."""
    shapes = wanted_shapes(signature)
    want_kinds(shapes, kinds)
    rows = wanted_case(shapes, kinds, case, "case")
    standing = {head: kind for kind, head in rows}
    if not is_integer(variable) or variable not in standing or shapes.is_open[standing[variable]]:
        raise BadValue("variable")
    store = Terms(shapes)
    parts = parts_of_split(store, store.load(rows), variable, standing[variable])
    return tuple([store.write(part) for part in parts])


def loaded(signature, kinds, case, table, numbers):
    """The store, and in it the case and the patterns."""
    shapes = wanted_shapes(signature)
    want_kinds(shapes, kinds)
    rows = wanted_case(shapes, kinds, case, "case")
    patterns = wanted_table(shapes, kinds, table)
    want_numbers(patterns, numbers)
    store = Terms(shapes)
    return store, store.load(rows), [store.load(pattern) for pattern in patterns]


def is_covered(signature, kinds, case, table, numbers):
    """Whether the patterns with these numbers cover the case."""
    store, case_nodes, patterns = loaded(signature, kinds, case, table, numbers)
    return covers(store, kinds, case_nodes, patterns, numbers)


def cover_evidence(signature, kinds, case, table, numbers):
    """The told evidence that the patterns cover the case, or that some values are left."""
    store, case_nodes, patterns = loaded(signature, kinds, case, table, numbers)
    return told_cover_evidence(store, kinds, case_nodes, patterns, numbers)


def accepts_cover(signature, kinds, case, table, numbers, value):
    """Whether the value is evidence of either word."""
    store, case_nodes, patterns = loaded(signature, kinds, case, table, numbers)
    return shows_cover(store, kinds, case_nodes, patterns, numbers, value)
