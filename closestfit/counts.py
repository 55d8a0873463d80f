"""Finite kinds, and the values of a kind in their order."""

from closestfit.checks import want_kind, wanted_shapes
from closestfit.counting import counts_below
from closestfit.errors import BadValue, NotPossible
from closestfit.flat import read_value, written
from closestfit.forms import has_word, is_index, is_integer, is_natural, is_tuple_of

MOST_STRANGERS = 9
MOST_SIZE = 60
MOST_HEIGHT = 2
MOST_STEPS = 3


def finite_evidence(signature, kind):
    """Evidence about the kind: its heights if it is finite, otherwise an endless way."""
    shapes = wanted_shapes(signature)
    want_kind(shapes, kind)
    if shapes.finite[kind]:
        return ("finite", told_heights(shapes, kind))
    return ("endless", told_way(shapes, kind))


def told_heights(shapes, kind):
    asked = sorted({kind: True, **shapes.led[kind]})
    heights = {}
    while len(heights) < len(asked):
        for near in asked:
            parts = [part for _, parts in shapes.constructors[near] for part in parts]
            if all([part in heights for part in parts]):
                heights[near] = max([heights[part] + 1 for part in parts], default=0)
    return tuple([heights.get(near) for near in range(len(shapes.signature))])


def told_way(shapes, kind):
    """The first one of the ways with the fewest steps."""
    ways = [()]
    while True:
        for way in ways:
            if is_way(shapes, kind, way):
                return way
        # The ways stay in their order: each one is followed by its own steps.
        ways = [(*way, step) for way in ways for step in steps_from(shapes, end_of(shapes, kind, way))]


def steps_from(shapes, kind):
    return [(name, place) for name, parts in shapes.constructors[kind] for place in range(len(parts))]


def end_of(shapes, kind, way):
    """The kind at which the way ends."""
    if not way:
        return kind
    name, place = way[-1]
    return shapes.parts[name][place]


def is_way(shapes, kind, way):
    """Whether the steps go on from the kind, and end in an open kind or in one of a constructor of the way."""
    at = kind
    passed = {}
    for name, place in way:
        if shapes.kind[name] != at:
            return False
        passed[at] = True
        at = shapes.parts[name][place]
    return shapes.is_open[at] or at in passed


def is_finite_evidence(signature, kind, value):
    """Whether the value is evidence about the kind."""
    shapes = wanted_shapes(signature)
    want_kind(shapes, kind)
    if has_word(value, "finite", 2):
        return are_heights(shapes, kind, value[1])
    if has_word(value, "endless", 2):
        return are_steps(shapes, value[1]) and is_way(shapes, kind, value[1])
    return False


def are_heights(shapes, kind, heights):
    many = len(shapes.signature)
    if not is_tuple_of(heights, many, many):
        return False
    if not all(height is None or is_index(height, MOST_HEIGHT + 1) for height in heights):
        return False
    return heights[kind] is not None and all(is_height(shapes, heights, near) for near in range(many))


def is_height(shapes, heights, kind):
    """Whether the kind has no height, or is closed with parts of lesser heights alone."""
    if heights[kind] is None:
        return True
    below = [heights[part] for _, parts in shapes.constructors[kind] for part in parts]
    return not shapes.is_open[kind] and all([height is not None and height < heights[kind] for height in below])


def are_steps(shapes, way):
    return is_tuple_of(way, 0, MOST_STEPS) and all(is_step(shapes, step) for step in way)


def is_step(shapes, step):
    if not is_tuple_of(step, 2, 2) or not isinstance(step[0], str) or step[0] not in shapes.parts:
        return False
    return is_index(step[1], len(shapes.parts[step[0]]))


def count_of(signature, kind):
    """The number of the values of a finite kind, None for another kind."""
    shapes = wanted_shapes(signature)
    want_kind(shapes, kind)
    if not shapes.finite[kind]:
        return None
    heights = told_heights(shapes, kind)
    numbers = {}
    for height in range(MOST_HEIGHT + 1):
        for near in range(len(heights)):
            if heights[near] == height:
                numbers[near] = sum([product_of(numbers, parts) for _, parts in shapes.constructors[near]])
    return numbers[kind]


def product_of(numbers, parts):
    total = 1
    for part in parts:
        total *= numbers[part]
    return total


def want_strangers(strangers):
    if not is_index(strangers, MOST_STRANGERS + 1):
        raise BadValue("strangers")


def number_of(signature, kind, strangers, size):
    """The number of the values of the kind below strangers with so many places."""
    shapes = wanted_shapes(signature)
    want_kind(shapes, kind)
    want_strangers(strangers)
    if not is_integer(size) or not 1 <= size <= MOST_SIZE:
        raise BadValue("size")
    return counts_below(shapes, strangers).number(kind, size)


def value_at(signature, kind, strangers, index):
    """The value below strangers with this index."""
    shapes = wanted_shapes(signature)
    want_kind(shapes, kind)
    want_strangers(strangers)
    if not is_natural(index):
        raise BadValue("index")
    rows = counts_below(shapes, strangers).value(kind, index, MOST_SIZE)
    if rows is None:
        raise NotPossible("index")
    return written(shapes, rows)[0]


def index_of(signature, kind, strangers, value):
    """The index of a value below strangers."""
    shapes = wanted_shapes(signature)
    want_kind(shapes, kind)
    want_strangers(strangers)
    rows = read_value(shapes, kind, value, MOST_SIZE)
    if rows is None or not all([is_below(head, strangers) for _, head in rows]):
        raise BadValue("value")
    return counts_below(shapes, strangers).position(rows)


def is_below(head, strangers):
    return isinstance(head, str) or head[1] < strangers
