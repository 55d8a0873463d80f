"""Bodies gone through, and the steps of uses."""

from closestfit.forms import is_natural
from closestfit.matching import match


def listed_places(store, body):
    """The pairs of path and node of all places of a body, each one behind its parts, from left to right."""
    found = []
    waiting = [((), body)]
    while waiting:
        path, node = waiting.pop()
        found.append((path, node))
        waiting += [((*path, k), part) for k, part in enumerate(store.parts[node])]
    return found[::-1]


def listed_uses(program, number):
    """The pairs of path and node of the uses in the body of a definition, as listed."""
    places = listed_places(program.store, program.definitions[number].body)
    return [(path, node) for path, node in places if program.is_use(node)]


def use_at(program, number, path):
    """The node of the use for which whatever is judged as a path stands; None if it stands for none."""
    if not isinstance(path, tuple) or not all([is_natural(index) for index in path]):
        return None
    found = [node for right, node in listed_uses(program, number) if right == path]
    return found[0] if found else None


def values_put(program, use, number):
    """The value of each variable where the pattern of the definition matches the use."""
    return match(program.store, program.definitions[number].pattern, program.store.parts[use])


def step_node(program, use, number):
    """The step of a use that chooses the definition."""
    body = program.definitions[number].body
    return program.store.instance((body,), values_put(program, use, number))[0]


def walk(program, known, use, number):
    """Goes through the step of a use with the values of the uses that are known.

    Gives ("value", node) with what the step comes to, or ("use", node) with
    the first use listed that is not known.
    """
    store = program.store
    put = values_put(program, use, number)
    done = []
    for _, node in listed_places(store, program.definitions[number].body):
        parts = done[len(done) - len(store.parts[node]):]
        del done[len(done) - len(parts):]
        head = store.heads[node]
        new = put[head] if isinstance(head, int) else store.put(head, tuple(parts))
        if head in program.parameters:
            if new not in known:
                return ("use", new)
            new = known[new]
        done.append(new)
    return ("value", done[0])
