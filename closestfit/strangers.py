"""Strangers: renumbered, exchanged, and put in the place of what others have added."""

from closestfit.checks import MOST_PLACES, want_kinds, wanted_shapes, wanted_values
from closestfit.errors import BadValue, NotPossible, TooLarge
from closestfit.flat import arity, read_value, written
from closestfit.forms import is_index, is_natural, is_tuple_of
from closestfit.signatures import MOST_CONSTRUCTORS, are_parts, is_name


def joined(rows_of_values):
    return [row for rows in rows_of_values for row in rows]


def renumbered(signature, kinds, values):
    """The tuple of the renumbered values."""
    shapes = wanted_shapes(signature)
    want_kinds(shapes, kinds)
    rows = joined(wanted_values(shapes, kinds, values))
    numbers = {}
    next_numbers = [0 for _ in shapes.signature]
    for kind, head in rows:
        if not isinstance(head, str) and (kind, head) not in numbers:
            numbers[(kind, head)] = next_numbers[kind]
            next_numbers[kind] += 1
    new = [(kind, head if isinstance(head, str) else ("#", numbers[(kind, head)])) for kind, head in rows]
    return written(shapes, new)


def exchanged(signature, kinds, values, exchange):
    """The tuple of the exchanged values."""
    shapes = wanted_shapes(signature)
    want_kinds(shapes, kinds)
    rows_of_values = wanted_values(shapes, kinds, values)
    put = wanted_exchange(shapes, exchange)
    for rows in rows_of_values:
        if sum([len(put.get(row, (row,))) for row in rows]) > MOST_PLACES:
            raise TooLarge("value")
    return written(shapes, [new for row in joined(rows_of_values) for new in put.get(row, (row,))])


def wanted_exchange(shapes, exchange):
    """What is put for each stranger, as rows."""
    if not isinstance(exchange, tuple):
        raise BadValue("exchange")
    put = {}
    before = (-1, -1)
    for item in exchange:
        rows = exchange_rows(shapes, item)
        if rows is None or item[:2] <= before:
            raise BadValue("exchange")
        before = item[:2]
        put[(item[0], ("#", item[1]))] = rows
    return put


def exchange_rows(shapes, item):
    """The rows of the value of a triple of an exchange, or None."""
    if not is_tuple_of(item, 3, 3):
        return None
    kind, number, value = item
    if not is_open_kind(shapes, kind) or not is_natural(number):
        return None
    return read_value(shapes, kind, value, MOST_PLACES)


def is_open_kind(shapes, kind):
    return is_index(kind, len(shapes.signature)) and shapes.is_open[kind]


def with_constructor(signature, kind, constructor):
    """The signature in which the open kind has this further constructor."""
    shapes = wanted_shapes(signature)
    if not is_open_kind(shapes, kind):
        raise BadValue("kind")
    if not is_further(shapes, constructor):
        raise BadValue("constructor")
    if shapes.width(kind) == MOST_CONSTRUCTORS:
        raise NotPossible("full")
    how, constructors = signature[kind]
    return (*signature[:kind], (how, (*constructors, constructor)), *signature[kind + 1:])


def is_further(shapes, constructor):
    """Whether this is a constructor with a new name."""
    if not is_tuple_of(constructor, 2, 2):
        return False
    name, parts = constructor
    return is_name(name) and name not in shapes.kind and are_parts(parts, len(shapes.signature))


def seen_without(signature, kinds, values, names):
    """The tuple of the values as they are seen without the constructors with these names."""
    shapes = wanted_shapes(signature)
    want_kinds(shapes, kinds)
    rows = joined(wanted_values(shapes, kinds, values))
    left_out = wanted_names(shapes, names)
    next_numbers = [first_free(rows, kind) for kind in range(len(shapes.signature))]
    numbers = {}
    new = []
    at = 0
    while at < len(rows):
        kind, head = rows[at]
        end = at + 1
        if isinstance(head, str) and head in left_out:
            end = end_of_part(shapes, rows, at)
            # The heads from left to right tell which value it is, as each of them tells its number of parts.
            part = tuple([inner for _, inner in rows[at:end]])
            if part not in numbers:
                numbers[part] = next_numbers[kind]
                next_numbers[kind] += 1
            head = ("#", numbers[part])
        new.append((kind, head))
        at = end
    return written(shapes, new)


def wanted_names(shapes, names):
    """The names as a dict."""
    if not isinstance(names, tuple):
        raise BadValue("names")
    found = {}
    for name in names:
        known = isinstance(name, str) and name in shapes.kind and shapes.is_open[shapes.kind[name]]
        if not known or name in found:
            raise BadValue("names")
        found[name] = True
    return found


def first_free(rows, kind):
    """The least number that is greater than those of all strangers of the kind."""
    return 1 + max([head[1] for near, head in rows if near == kind and not isinstance(head, str)], default=-1)


def end_of_part(shapes, rows, start):
    """The index behind the last row of the part that begins with the row at start."""
    missing = 1
    at = start
    while missing:
        missing += arity(shapes, rows[at][1]) - 1
        at += 1
    return at
