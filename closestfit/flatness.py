"""Flat programs: each generic looks at its first parameter alone, and not deeply."""

from closestfit.errors import NotPossible
from closestfit.steps import listed_uses


def first_not_flat(program):
    """The number of the first definition that is not flat, with None or the path of its first use that is not."""
    for number in range(len(program.definitions)):
        if not is_flat_pattern(program, number):
            return number, None
        for path, use in listed_uses(program, number):
            if not is_flat_use(program, number, use):
                return number, path
    return None


def is_flat_pattern(program, number):
    store = program.store
    first, *others = program.definitions[number].pattern
    terms = [*store.parts[first], *others] if store.is_made(first) else [first, *others]
    return all([store.is_variable(term) for term in terms]) and len(set(terms)) == len(terms)


def is_flat_use(program, number, use):
    """Whether no use stands in the first argument, and no variable but those of the first term of the pattern."""
    store = program.store
    first = program.definitions[number].pattern[0]
    inside = store.inside((store.parts[use][0],))
    if any([program.is_use(node) for node in inside]):
        return False
    known = store.inside((first,))
    return all([node in known for node in inside if store.is_variable(node)])


def want_flat(program):
    if first_not_flat(program) is not None:
        raise NotPossible("flat")
