"""Instances of a case: what is put for its variables, and reasons why there is none.

All of this is about nodes of a store (terms.py).
"""

from closestfit.forms import has_word, is_index, is_tuple_of


def match(store, case, given):
    """What is put for each variable of the case so that it becomes the given nodes, or None."""
    put = {}
    waiting = list(zip(case, given))
    while waiting:
        one, other = waiting.pop()
        head = store.heads[one]
        if isinstance(head, int):
            if put.setdefault(head, other) != other:
                return None
        elif store.heads[other] != head:
            return None
        else:
            waiting += list(zip(store.parts[one], store.parts[other]))
    return put


def is_instance(store, case, given):
    return match(store, case, given) is not None


def told_evidence(store, case, given):
    """Told is the first clash, then the first unlike places, then what is put."""
    standing = {}
    waiting = deeper((), case, given)
    while waiting:
        place, one, other = waiting.pop()
        head = store.heads[one]
        if isinstance(head, int):
            standing.setdefault(head, []).append((place, other))
        elif store.heads[other] != head:
            return ("clash", place)
        else:
            waiting += deeper(place, store.parts[one], store.parts[other])
    unlike = [pair for rows in standing.values() for pair in unlike_places(rows)]
    if unlike:
        return ("unlike", *min(unlike))
    return ("is", store.write([standing[variable][0][1] for variable in sorted(standing)]))


def deeper(place, ones, others):
    """The pairs of parts with their places, the first pair at the end."""
    pairs = list(zip(ones, others))
    return [((*place, i), one, other) for i, (one, other) in enumerate(pairs)][::-1]


def unlike_places(rows):
    """The first place of a variable, with the first further place that has something else, if there is one."""
    first, node = rows[0]
    return [(first, place) for place, other in rows if other != node][:1]


def is_evidence(store, case, given, value):
    """Whether the value is evidence of any of the three words."""
    if has_word(value, "is", 2):
        return are_put(store, case, given, value[1])
    return is_reason(store, case, given, value)


def are_put(store, case, given, terms):
    """Whether the terms, put for the variables of the case in their order, make it the given nodes."""
    put = match(store, case, given)
    if put is None or not is_tuple_of(terms, len(put), len(put)):
        return False
    variables = sorted(put)
    return all([store.same(put[variable], term) for variable, term in zip(variables, terms)])


def is_reason(store, case, given, value):
    """Whether the value is a reason why the given nodes are no instance of the case."""
    if has_word(value, "clash", 2):
        one = node_at(store, case, value[1])
        other = node_at(store, given, value[1])
        if one is None or other is None or not store.is_made(one):
            return False
        return store.heads[one] != store.heads[other]
    if has_word(value, "unlike", 3):
        return are_unlike(store, case, given, value[1:])
    return False


def are_unlike(store, case, given, places):
    ones = [node_at(store, case, place) for place in places]
    others = [node_at(store, given, place) for place in places]
    if None in ones or None in others or not store.is_variable(ones[0]):
        return False
    return ones[0] == ones[1] and others[0] != others[1] and places[0] < places[1]


def node_at(store, roots, place):
    """The node at whatever is judged as a place; None if it is none."""
    if not isinstance(place, tuple) or not place:
        return None
    node = None
    parts = roots
    for index in place:
        if not is_index(index, len(parts)):
            return None
        node = parts[index]
        parts = store.parts[node]
    return node
