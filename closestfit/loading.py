"""Arguments that are checked and put into a store at once."""

from closestfit.cases import wanted_table
from closestfit.checks import want_kinds, wanted_shapes
from closestfit.terms import Terms


def loaded_table(signature, kinds, table):
    """The store, and in it the patterns of the table."""
    shapes = wanted_shapes(signature)
    want_kinds(shapes, kinds)
    patterns = wanted_table(shapes, kinds, table)
    store = Terms(shapes)
    return store, [store.load(pattern) for pattern in patterns]


def loaded_tables(signature, kinds, table, other):
    """The store, and in it the patterns of both tables."""
    store, patterns = loaded_table(signature, kinds, table)
    others = wanted_table(store.shapes, kinds, other, "other")
    return store, patterns, [store.load(pattern) for pattern in others]
