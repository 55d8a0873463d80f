"""Numbers that are fixed for a case, with patterns and the case as nodes of a store."""

from closestfit.choosing import is_below_pattern, is_choice
from closestfit.covering import covers, instance_of, told_cover_evidence
from closestfit.equations import shows_apart
from closestfit.forms import has_word, is_integer, is_tuple_of
from closestfit.leavings import first_value
from closestfit.meeting import meet_nodes, raised, small_meet, told_meet_evidence
from closestfit.trees import is_tree


def not_above(store, table, number):
    """The numbers of the patterns that the pattern with this number is not below."""
    return [s for s, pattern in enumerate(table) if not is_below_pattern(store, table[number], pattern)]


def is_fixed_number(store, kinds, table, case, number):
    if not covers(store, kinds, case, table, (number,)):
        return False
    others = not_above(store, table, number)
    return all([meet_nodes(store, kinds, case, table[s]) is None for s in others])


def told_fixed_evidence(store, kinds, table, case, number):
    """("fixed", tree, rows) or ("free", values)."""
    word, found = told_cover_evidence(store, kinds, case, table, (number,))
    if word == "left":
        return ("free", found)
    rows = []
    for s in not_above(store, table, number):
        meet = small_meet(store, kinds, case, table[s])
        if meet is not None:
            return ("free", some_values(store, kinds, meet))
        _, equations, ring = told_meet_evidence(store, kinds, case, table[s])
        rows.append((s, equations, ring))
    return ("fixed", found, tuple(rows))


def some_values(store, kinds, case):
    """Values that the case matches: a small one for each variable, so none has more than 400 places."""
    standing = store.variables(kinds, case)
    return store.write(store.instance(case, {number: first_value(store, standing[number]) for number in standing}))


def shows_fixed(store, kinds, table, case, number, value):
    """Whether the value is evidence of either word."""
    if has_word(value, "free", 2):
        values = instance_of(store, kinds, case, value[1])
        return values is not None and not is_choice(store, table, values, number)
    if not has_word(value, "fixed", 3):
        return False
    _, tree, rows = value
    if not is_tree(store, kinds, case, table, (number,), tree):
        return False
    others = not_above(store, table, number)
    if not is_tuple_of(rows, len(others), len(others)):
        return False
    return all([is_kept_off(store, kinds, table, case, s, row) for s, row in zip(others, rows)])


def is_kept_off(store, kinds, table, case, s, row):
    """Whether the row shows that the case does not meet the pattern with the number s."""
    if not is_tuple_of(row, 3, 3) or not is_integer(row[0]) or row[0] != s:
        return False
    other = raised(store, kinds, case, table[s])
    return shows_apart(store, case, other, row[1], row[2])
