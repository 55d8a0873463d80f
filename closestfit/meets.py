"""The meets of two cases."""

from closestfit.cases import wanted_case
from closestfit.checks import want_kinds, wanted_shapes
from closestfit.equations import shows_meet_or_apart
from closestfit.meeting import raised, small_meet, told_meet_evidence
from closestfit.terms import Terms


def loaded(signature, kinds, one, other):
    """The store, and in it the two cases."""
    shapes = wanted_shapes(signature)
    want_kinds(shapes, kinds)
    one_rows = wanted_case(shapes, kinds, one, "one")
    other_rows = wanted_case(shapes, kinds, other, "other")
    store = Terms(shapes)
    return store, store.load(one_rows), store.load(other_rows)


def meet_of(signature, kinds, one, other):
    """The told meet of two cases, or None if they do not meet."""
    store, one_nodes, other_nodes = loaded(signature, kinds, one, other)
    meet = small_meet(store, kinds, one_nodes, other_nodes)
    return None if meet is None else store.write(meet)


def meet_evidence(signature, kinds, one, other):
    """Evidence that the two cases meet, or that they do not."""
    store, one_nodes, other_nodes = loaded(signature, kinds, one, other)
    return told_meet_evidence(store, kinds, one_nodes, other_nodes)


def accepts_meet(signature, kinds, one, other, value):
    """Whether the value is evidence of either word about the two cases."""
    store, one_nodes, other_nodes = loaded(signature, kinds, one, other)
    raised_nodes = raised(store, kinds, one_nodes, other_nodes)
    return shows_meet_or_apart(store, kinds, one_nodes, raised_nodes, value)
