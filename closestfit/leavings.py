"""The values that are told of a case that is left."""

from closestfit.checks import MOST_PLACES
from closestfit.counting import Counts, counts_below
from closestfit.errors import TooLarge
from closestfit.matching import is_instance


def told_values(store, kinds, case, patterns):
    """The values of a case that is left, which none of the patterns matches."""
    values = filled(store, kinds, case, patterns)
    if any([store.sizes[value] > MOST_PLACES for value in values]):
        raise TooLarge("value")
    return store.write(values)


def filled(store, kinds, case, patterns):
    """The case with a value for each variable, as nodes."""
    shapes = store.shapes
    standing = store.variables(kinds, case)
    simple = {}
    number = 0
    for variable, kind in standing.items():
        if shapes.is_open[kind]:
            simple[variable] = store.put(("#", number), ())
            number += 1
        elif shapes.finite[kind]:
            simple[variable] = first_value(store, kind)
    case = store.instance(case, simple)
    for variable, kind in standing.items():
        if variable not in simple:
            case = with_fresh_value(store, case, patterns, variable, kind)
    return case


def first_value(store, kind):
    """The first value of the kind below one stranger."""
    size = 1
    counts = counts_below(store.shapes, 1)
    while counts.number(kind, size) == 0:
        size += 1
    return store.load(counts.value(kind, 0, size))[0]


def with_fresh_value(store, case, patterns, variable, kind):
    """The case with the first fresh value for the variable with which it is below none of the patterns."""
    counts = fresh_counts(store.shapes)
    start = store.free_in(case)
    index = 0
    while True:
        value = store.load(fresh_rows(counts, kind, index, start))[0]
        new = store.instance(case, {variable: value})
        if not any([is_instance(store, pattern, new) for pattern in patterns]):
            return new
        index += 1


def fresh_counts(shapes):
    """Counts fresh values: at places of open kinds they have a stranger and nothing else."""
    constructors = [() if is_open else row for is_open, row in zip(shapes.is_open, shapes.constructors)]
    return Counts(constructors, [1 if is_open else 0 for is_open in shapes.is_open])


def fresh_rows(counts, kind, index, start):
    """The rows of the fresh value with this index, with strangers from start on."""
    most = 1
    rows = counts.value(kind, index, most)
    while rows is None:
        most += most
        rows = counts.value(kind, index, most)
    found = []
    number = start
    for near, head in rows:
        if isinstance(head, str):
            found.append((near, head))
        else:
            found.append((near, ("#", number)))
            number += 1
    return found
