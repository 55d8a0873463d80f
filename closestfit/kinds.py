"""Signatures, kinds and values."""

from closestfit.checks import MOST_PLACES, want_kind, wanted_shapes
from closestfit.flat import read_value
from closestfit.signatures import is_signature_form


def is_signature(value):
    """Whether the value is a signature."""
    return is_signature_form(value)


def is_value(signature, kind, value):
    """Whether the value is a value of the kind of at most 400 places."""
    shapes = wanted_shapes(signature)
    want_kind(shapes, kind)
    return read_value(shapes, kind, value, MOST_PLACES) is not None


def is_finite(signature, kind):
    """Whether the kind is finite."""
    shapes = wanted_shapes(signature)
    want_kind(shapes, kind)
    return shapes.finite[kind]
