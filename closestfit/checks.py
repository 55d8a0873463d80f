"""Arguments are checked here: each function gives what it read, or raises BadValue."""

from closestfit.errors import BadValue
from closestfit.flat import read_value
from closestfit.forms import is_index, is_tuple_of
from closestfit.signatures import Shapes, is_signature_form

MOST_PLACES = 400


def wanted_shapes(signature):
    if not is_signature_form(signature):
        raise BadValue("signature")
    return Shapes(signature)


def want_kind(shapes, kind):
    if not is_index(kind, len(shapes.signature)):
        raise BadValue("kind")


def want_kinds(shapes, kinds):
    many = len(shapes.signature)
    if not is_tuple_of(kinds, 1, 6) or not all(is_index(kind, many) for kind in kinds):
        raise BadValue("kinds")


def read_values(shapes, kinds, values):
    """The rows of each value, or None if these are not values of the kinds."""
    if not is_tuple_of(values, len(kinds), len(kinds)):
        return None
    found = [read_value(shapes, kind, value, MOST_PLACES) for kind, value in zip(kinds, values)]
    return None if None in found else found


def wanted_values(shapes, kinds, values):
    found = read_values(shapes, kinds, values)
    if found is None:
        raise BadValue("values")
    return found
