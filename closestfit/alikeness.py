"""The needed part of a clear table, and clear tables that choose alike, about nodes of a store."""

from closestfit.choosing import answer
from closestfit.clearing import found_chosen, found_clear, shows_chosen, values_of
from closestfit.errors import NotPossible
from closestfit.forms import has_word, is_tuple_of


def want_clear(store, kinds, table):
    if found_clear(store, kinds, table)[0] != "clear":
        raise NotPossible("two")


def all_chosen(store, kinds, table):
    """What is found about each pattern of a table that must be clear."""
    want_clear(store, kinds, table)
    return [found_chosen(store, kinds, table, number) for number in range(len(table))]


def chosen_numbers(found):
    return [number for number, (word, _) in enumerate(found) if word == "chosen"]


def needed_numbers(store, kinds, table):
    return chosen_numbers(all_chosen(store, kinds, table))


def found_alike(store, kinds, table, other):
    """("alike", ones, others), or ("unlike", what was found about the first pattern that the other table lacks)."""
    ones = all_chosen(store, kinds, table)
    others = all_chosen(store, kinds, other)
    near = {table[number]: True for number in chosen_numbers(ones)}
    far = {other[number]: True for number in chosen_numbers(others)}
    lacking = [ones[number] for number in chosen_numbers(ones) if table[number] not in far]
    lacking += [others[number] for number in chosen_numbers(others) if other[number] not in near]
    return ("unlike", lacking[0]) if lacking else ("alike", ones, others)


def shows_alike(store, kinds, table, other, value):
    """Whether the value is evidence of either word about two clear tables."""
    if has_word(value, "unlike", 2):
        values = values_of(store, kinds, value[1])
        return values is not None and chosen_pattern(store, table, values) != chosen_pattern(store, other, values)
    if not has_word(value, "alike", 3):
        return False
    if not are_chosen_rows(store, kinds, table, value[1]) or not are_chosen_rows(store, kinds, other, value[2]):
        return False
    near = sorted([table[number] for number in chosen_numbers(value[1])])
    far = sorted([other[number] for number in chosen_numbers(value[2])])
    return near == far


def chosen_pattern(store, table, values):
    """The pattern that a clear table chooses, or None."""
    found = answer(store, table, values)
    return table[found] if isinstance(found, int) else None


def are_chosen_rows(store, kinds, table, rows):
    """Whether these are pieces of evidence about the patterns of the table, one of each."""
    if not is_tuple_of(rows, len(table), len(table)):
        return False
    return all([shows_chosen(store, kinds, table, number, row) for number, row in enumerate(rows)])
