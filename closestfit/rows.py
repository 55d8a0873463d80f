"""Judges rows and trails of uses, without doing a use."""

from closestfit.checks import MOST_PLACES
from closestfit.definitions import read_use
from closestfit.doing import MOST_USES
from closestfit.forms import has_word, is_tuple_of
from closestfit.matching import is_instance
from closestfit.steps import walk


def read_rows(program, value):
    """The values of the uses of a right tuple of rows, as a dict in their order; None if it is not right."""
    if not is_tuple_of(value, 0, MOST_USES):
        return None
    known = {}
    for row in value:
        found = read_row(program, known, row)
        if found is None:
            return None
        use, worth = found
        known[use] = worth
    return known


def read_row(program, known, row):
    """The use of a row and its value, if the row is right behind what is known, otherwise None."""
    if not is_tuple_of(row, 3, 3):
        return None
    found = read_chosen(program, row[0], row[1])
    if found is None or found[0] in known:
        return None
    word, node = walk(program, known, *found)
    store = program.store
    # What is too large is not written out.
    if word == "use" or store.sizes[node] > MOST_PLACES or not store.same(node, row[2]):
        return None
    return found[0], node


def read_chosen(program, use, pattern):
    """The node of a use and the number of its choice, if it has one with this pattern, otherwise None."""
    node = read_use(program, use, MOST_PLACES)
    if node is None:
        return None
    number = program.choice(node)
    if not isinstance(number, int) or not program.store.are_same(program.definitions[number].pattern, pattern):
        return None
    return node, number


def shows_done(program, use, value):
    """Whether the value is evidence of any of the four words about the use."""
    if has_word(value, "value", 2):
        known = read_rows(program, value[1])
        return bool(known) and list(known)[-1] == use
    if not has_word(value, "none", 4) and not has_word(value, "round", 4) and not has_word(value, "two", 6):
        return False
    known = read_rows(program, value[1])
    last = read_use(program, value[3], MOST_PLACES)
    if known is None or last is None:
        return False
    uses = read_trail(program, known, use, value[2], last)
    if uses is None or len(known) + len({node: True for node in (*uses, last)}) > MOST_USES:
        return False
    return shows_trouble(program, uses, last, value)


def read_trail(program, known, use, trail, last):
    """The uses of a trail from the use to the last one, or None."""
    if not is_tuple_of(trail, 0, MOST_USES):
        return None
    uses = []
    following = use
    for pair in trail:
        found = read_chosen(program, *pair) if is_tuple_of(pair, 2, 2) else None
        if found is None or found[0] != following:
            return None
        uses.append(following)
        word, following = walk(program, known, *found)
        if word == "value":
            return None
    return uses if following == last else None


def shows_trouble(program, uses, last, value):
    """Whether the trouble with this word is met at the last use."""
    if value[0] == "round":
        return last in uses and len({use: True for use in uses}) == len(uses)
    if value[0] == "none":
        return program.choice(last) == "none"
    return are_quarrelling(program, last, value[4:])


def are_quarrelling(program, last, patterns):
    """Whether the two patterns match the use, and no pattern that matches it is below both."""
    store = program.store
    table = [pattern for pattern in program.tables[store.heads[last]]
             if is_instance(store, pattern, store.parts[last])]
    both = [pattern for named in patterns for pattern in table if store.are_same(pattern, named)]
    if len(both) < 2:
        return False
    return not any([all([is_instance(store, above, pattern) for above in both]) for pattern in table])
