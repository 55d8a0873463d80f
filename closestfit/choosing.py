"""Answers of a table at values, and evidence of them.

A table is a list of patterns, which are nodes of a store, and so are the
values. Each question about two patterns is asked as often as it comes: a
table has at most twelve.
"""

from closestfit.forms import has_word, is_index, is_tuple_of
from closestfit.matching import are_put, is_instance, is_reason, told_evidence


def matching_numbers(store, table, values):
    return tuple([number for number, pattern in enumerate(table) if is_instance(store, pattern, values)])


def is_below_pattern(store, one, other):
    return is_instance(store, other, one)


def answer(store, table, values):
    """The choice, "none", or ("two", i, j)."""
    found = matching_numbers(store, table, values)
    if not found:
        return "none"
    lowest = [number for number in found if not has_lower(store, table, found, number)]
    # Of finitely many patterns a single lowest one is below all.
    return lowest[0] if len(lowest) == 1 else ("two", lowest[0], lowest[1])


def has_lower(store, table, numbers, number):
    """Whether another one of these patterns is below the one with this number."""
    return any([other != number and is_below_pattern(store, table[other], table[number]) for other in numbers])


def is_choice(store, table, values, number):
    found = answer(store, table, values)
    return isinstance(found, int) and found == number


def told_choice_evidence(store, table, values):
    found = answer(store, table, values)
    if found == "none":
        return ("none", tuple([told_off(store, pattern, values) for pattern in table]))
    if isinstance(found, int):
        return ("one", found, tuple([told_above(store, table[found], pattern, values) for pattern in table]))
    _, i, j = found
    return ("two", i, j, tuple([told_beside(store, table, i, j, pattern, values) for pattern in table]))


def told_off(store, pattern, values):
    return ("off", told_evidence(store, pattern, values))


def told_above(store, chosen, pattern, values):
    if not is_instance(store, pattern, values):
        return told_off(store, pattern, values)
    _, terms = told_evidence(store, pattern, chosen)
    return ("above", terms)


def told_beside(store, table, i, j, pattern, values):
    if not is_instance(store, pattern, values):
        return told_off(store, pattern, values)
    n = j if is_below_pattern(store, pattern, table[i]) else i
    return ("beside", n, told_evidence(store, table[n], pattern))


def shows_choice(store, table, values, value):
    """Whether the value is evidence of one of the three words."""
    if has_word(value, "none", 2):
        return are_items(store, table, values, value[1], lambda pattern, item: False)
    if has_word(value, "one", 3):
        return shows_one(store, table, values, value[1], value[2])
    if has_word(value, "two", 4):
        return shows_two(store, table, values, value[1:3], value[3])
    return False


def are_items(store, table, values, rows, accepts):
    """Whether each item tells that its pattern does not match, or is accepted beside its pattern."""
    if not is_tuple_of(rows, len(table), len(table)):
        return False
    return all([is_off(store, pattern, values, item) or accepts(pattern, item) for pattern, item in zip(table, rows)])


def is_off(store, pattern, values, item):
    return has_word(item, "off", 2) and is_reason(store, pattern, values, item[1])


def shows_one(store, table, values, k, rows):
    if not does_match(store, table, values, k):
        return False
    return are_items(store, table, values, rows, lambda pattern, item: is_above(store, pattern, table[k], item))


def is_above(store, pattern, chosen, item):
    return has_word(item, "above", 2) and are_put(store, pattern, chosen, item[1])


def shows_two(store, table, values, numbers, rows):
    if not all([does_match(store, table, values, number) for number in numbers]) or numbers[0] >= numbers[1]:
        return False
    return are_items(store, table, values, rows, lambda pattern, item: is_beside(store, pattern, table, numbers, item))


def does_match(store, table, values, number):
    """Whether this is the number of a pattern of the table that matches."""
    return is_index(number, len(table)) and is_instance(store, table[number], values)


def is_beside(store, pattern, table, numbers, item):
    """Whether the item tells that its pattern is not below one of the two patterns."""
    if not has_word(item, "beside", 3) or not is_index(item[1], len(table)) or item[1] not in numbers:
        return False
    return is_reason(store, table[item[1]], pattern, item[2])
