"""Tables that are clear or complete, and patterns that are ever chosen, about nodes of a store.

What is found is a pair: a word with a tree or with rows of trees, or another
word with what is left: a case, and the patterns of which none matches the
values that are told of it.
"""

from closestfit.choosing import answer, is_below_pattern, is_choice
from closestfit.covering import instance_of
from closestfit.equations import MOST_IN_MEET
from closestfit.fixing import not_above
from closestfit.forms import has_word, is_integer, is_tuple_of
from closestfit.leavings import told_values
from closestfit.matching import is_instance
from closestfit.meeting import meet_nodes, small_meet
from closestfit.trees import is_tree, told_cover


def asked(store, kinds, case, table, numbers, words):
    """What chapter 4 tells about the case and these numbers, with these words for "covered" and "left"."""
    word, found = told_cover(store, kinds, case, table, numbers)
    if word == "covered":
        return (words[0], found)
    return (words[1], (found, [table[number] for number in numbers]))


def with_values(store, kinds, found, word):
    """What was found, with the told values if it is something left: if it has this word."""
    if found[0] != word:
        return found
    case, patterns = found[1]
    return (word, told_values(store, kinds, case, patterns))


def pairs_of_numbers(table):
    many = len(table)
    return [(i, j) for i in range(many) for j in range(i + 1, many)]


def below_both(store, table, i, j):
    """The numbers of the patterns that are below both of these two."""
    both = (table[i], table[j])
    return tuple([number for number, pattern in enumerate(table)
                  if all([is_below_pattern(store, pattern, above) for above in both])])


def found_clear(store, kinds, table):
    """("clear", rows), or ("two", what is left) of the first pair whose meet is not covered."""
    rows = []
    for i, j in pairs_of_numbers(table):
        meet = small_meet(store, kinds, table[i], table[j])
        if meet is None:
            continue
        found = asked(store, kinds, meet, table, below_both(store, table, i, j), ("clear", "two"))
        if found[0] == "two":
            return found
        rows.append((i, j, found[1]))
    return ("clear", tuple(rows))


def shows_clear(store, kinds, table, value):
    """Whether the value is evidence of either word."""
    if has_word(value, "two", 2):
        values = values_of(store, kinds, value[1])
        return values is not None and isinstance(answer(store, table, values), tuple)
    return has_word(value, "clear", 2) and are_clear_rows(store, kinds, table, value[1])


def values_of(store, kinds, value):
    """The nodes of whatever is judged if these are values of the kinds, otherwise None."""
    return instance_of(store, kinds, anything(store, kinds), value)


def anything(store, kinds):
    """The case all of whose terms are different variables."""
    return tuple([store.put(i, ()) for i in range(len(kinds))])


def are_clear_rows(store, kinds, table, rows):
    wanted = []
    for i, j in pairs_of_numbers(table):
        meet = meet_nodes(store, kinds, table[i], table[j])
        if meet is not None:
            wanted.append((i, j, meet, below_both(store, table, i, j)))
    return are_rows_of_trees(store, kinds, table, wanted, rows)


def are_rows_of_trees(store, kinds, table, wanted, rows):
    """Whether the rows are a triple (i, j, tree) for each wanted quadruple (i, j, case, numbers)."""
    if not is_tuple_of(rows, len(wanted), len(wanted)):
        return False
    return all([is_row_of_tree(store, kinds, table, *both) for both in zip(wanted, rows)])


def is_row_of_tree(store, kinds, table, wanted, row):
    i, j, case, numbers = wanted
    if store.places(case) > MOST_IN_MEET or not is_tuple_of(row, 3, 3):
        return False
    if not is_integer(row[0]) or not is_integer(row[1]) or (row[0], row[1]) != (i, j):
        return False
    return is_tree(store, kinds, case, table, numbers, row[2])


def all_numbers(table):
    return tuple(range(len(table)))


def found_complete(store, kinds, table):
    """("complete", tree) or ("gap", what is left)."""
    return asked(store, kinds, anything(store, kinds), table, all_numbers(table), ("complete", "gap"))


def shows_complete(store, kinds, table, value):
    """Whether the value is evidence of either word."""
    if has_word(value, "gap", 2):
        values = values_of(store, kinds, value[1])
        return values is not None and not any([is_instance(store, pattern, values) for pattern in table])
    if not has_word(value, "complete", 2):
        return False
    return is_tree(store, kinds, anything(store, kinds), table, all_numbers(table), value[1])


def found_chosen(store, kinds, table, number):
    """("never", tree) or ("chosen", what is left)."""
    return asked(store, kinds, table[number], table, tuple(not_above(store, table, number)), ("never", "chosen"))


def shows_chosen(store, kinds, table, number, value):
    """Whether the value is evidence of either word."""
    if has_word(value, "chosen", 2):
        values = values_of(store, kinds, value[1])
        return values is not None and is_choice(store, table, values, number)
    if not has_word(value, "never", 2):
        return False
    return is_tree(store, kinds, table[number], table, tuple(not_above(store, table, number)), value[1])
