"""Values and terms, read from left to right.

A value or a term is read into *rows*, one for each of its places: a pair of
the kind and the head. A head is the name of a constructor, a stranger
("#", n), or a variable, which is an integer. Reading needs no recursion, and
stops as soon as there are too many places, however deep the rest is.
"""

from closestfit.forms import is_natural, is_tuple_of

STRANGERS = "strangers"
VARIABLES = "variables"


def head_of(shapes, kind, term, leaves):
    """The head of the term, or None if it is none of this kind."""
    if leaves == VARIABLES and is_natural(term):
        return term
    if not isinstance(term, tuple) or not term or not isinstance(term[0], str):
        return None
    name = term[0]
    if name == "#":
        right = leaves == STRANGERS and shapes.is_open[kind] and len(term) == 2 and is_natural(term[1])
        return term if right else None
    if name not in shapes.kind or shapes.kind[name] != kind or len(term) != len(shapes.parts[name]) + 1:
        return None
    return name


def read(shapes, kinds, terms, most, leaves):
    """The rows of a tuple of terms of the kinds; None if it is none with at most so many places."""
    if not is_tuple_of(terms, len(kinds), len(kinds)):
        return None
    rows = []
    waiting = list(zip(kinds, terms))[::-1]
    while waiting:
        kind, term = waiting.pop()
        head = head_of(shapes, kind, term, leaves)
        if head is None or len(rows) == most:
            return None
        rows.append((kind, head))
        if isinstance(head, str):
            waiting += list(zip(shapes.parts[head], term[1:]))[::-1]
    return rows


def read_value(shapes, kind, value, most):
    """The rows of one value, or None."""
    return read(shapes, (kind,), (value,), most, STRANGERS)


def arity(shapes, head):
    return len(shapes.parts[head]) if isinstance(head, str) else 0


def written(shapes, rows):
    """The tuple of the terms that have these rows."""
    done = []
    for _, head in rows[::-1]:
        parts = [done.pop() for _ in range(arity(shapes, head))]
        done.append((head, *parts) if isinstance(head, str) else head)
    return tuple(done[::-1])
