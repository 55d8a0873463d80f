"""Cases, patterns, and their instances."""

from closestfit.cases import read_case, read_pattern, wanted_case, wanted_given
from closestfit.checks import want_kinds, wanted_shapes, wanted_values
from closestfit.matching import is_evidence, is_instance, told_evidence
from closestfit.terms import Terms


def is_case(signature, kinds, value):
    """Whether the value is a case of the kinds."""
    shapes = wanted_shapes(signature)
    want_kinds(shapes, kinds)
    return read_case(shapes, kinds, value) is not None


def is_pattern(signature, kinds, value):
    """Whether the value is a pattern of the kinds."""
    shapes = wanted_shapes(signature)
    want_kinds(shapes, kinds)
    return read_pattern(shapes, kinds, value) is not None


def matches(signature, kinds, case, values):
    """Whether the case matches the values."""
    shapes = wanted_shapes(signature)
    want_kinds(shapes, kinds)
    case_rows = wanted_case(shapes, kinds, case, "case")
    value_rows = wanted_values(shapes, kinds, values)
    store = Terms(shapes)
    return is_instance(store, store.load(case_rows), store.load_values(value_rows))


def loaded(signature, kinds, case, terms):
    """The store, and in it the case and the given terms."""
    shapes = wanted_shapes(signature)
    want_kinds(shapes, kinds)
    case_rows = wanted_case(shapes, kinds, case, "case")
    given_rows = wanted_given(shapes, kinds, terms)
    store = Terms(shapes)
    return store, store.load(case_rows), store.load([row for rows in given_rows for row in rows])


def instance_evidence(signature, kinds, case, terms):
    """The told evidence about the terms as an instance of the case."""
    store, case_nodes, given = loaded(signature, kinds, case, terms)
    return told_evidence(store, case_nodes, given)


def accepts_instance(signature, kinds, case, terms, value):
    """Whether the value is evidence about the terms as an instance of the case."""
    store, case_nodes, given = loaded(signature, kinds, case, terms)
    return is_evidence(store, case_nodes, given, value)


def is_below(signature, kinds, one, other):
    """Whether the one case is below the other one."""
    shapes = wanted_shapes(signature)
    want_kinds(shapes, kinds)
    one_rows = wanted_case(shapes, kinds, one, "one")
    other_rows = wanted_case(shapes, kinds, other, "other")
    store = Terms(shapes)
    return is_instance(store, store.load(other_rows), store.load(one_rows))
