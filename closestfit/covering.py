"""Whether patterns cover a case: the told evidence, and evidence of somebody else, about nodes of a store."""

from closestfit.checks import read_values
from closestfit.forms import has_word
from closestfit.leavings import told_values
from closestfit.matching import is_instance
from closestfit.trees import is_tree, told_cover


def covers(store, kinds, case, table, numbers):
    return told_cover(store, kinds, case, table, numbers)[0] == "covered"


def told_cover_evidence(store, kinds, case, table, numbers):
    """("covered", tree) or ("left", values)."""
    word, found = told_cover(store, kinds, case, table, numbers)
    if word == "covered":
        return (word, found)
    return (word, told_values(store, kinds, found, [table[number] for number in numbers]))


def shows_cover(store, kinds, case, table, numbers, value):
    """Whether the value is evidence of either word."""
    if has_word(value, "covered", 2):
        return is_tree(store, kinds, case, table, numbers, value[1])
    if has_word(value, "left", 2):
        values = instance_of(store, kinds, case, value[1])
        return values is not None and not any([is_instance(store, table[number], values) for number in numbers])
    return False


def instance_of(store, kinds, case, values):
    """The nodes of the values if these are values that the case matches, otherwise None."""
    rows = read_values(store.shapes, kinds, values)
    if rows is None:
        return None
    nodes = store.load_values(rows)
    return nodes if is_instance(store, case, nodes) else None
