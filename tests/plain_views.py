"""Points 138 to 149, read plainly: slow, for small things only, and apart from the program.

What cannot be told is the word of TooLarge, or ("not", word) for NotPossible.
"""

import itertools

from tests import plain, plain_programs
from tests.plain_cases import (accepts_tree, answer, are_values, has_true_or_false, is_below, match, meet,
                               told_cover_evidence)
from tests.plain_tables import all_numbers, is_pair_of, not_above, renamed


def part_of(table, view):
    return tuple(pattern for number, pattern in enumerate(table) if number in view)


def outcome(table, values):
    """Point 139: what must be the same."""
    found = answer(table, values)
    if isinstance(found, int):
        return table[found]
    return "two" if isinstance(found, tuple) else "none"


def small_values(signature, kinds, case, most=8, strangers=2):
    """Small values that the case matches."""
    rows = [plain.ordered_values(signature, kind, strangers, 5)[:most] for kind in kinds]
    return [values for values in itertools.product(*rows) if match(case, values) is not None]


def told_chosen_in(signature, kinds, table, case, number, finite):
    """Point 140."""
    common = meet(case, table[number])
    if common == "large":
        return "terms"
    if common is None:
        return ("apart",)
    told = told_cover_evidence(signature, kinds, common, table, not_above(table, number), finite)
    return renamed(told, {"covered": "never", "left": "chosen"})


def accepts_chosen_in(signature, kinds, table, case, number, value):
    if has_true_or_false(value) or not isinstance(value, tuple) or not value:
        return False
    if is_pair_of(value, "chosen"):
        return (are_values(signature, kinds, value[1]) and match(case, value[1]) is not None
                and answer(table, value[1]) == number)
    common = meet(case, table[number])
    if value == ("apart",):
        return common is None
    return is_pair_of(value, "never") and common not in (None, "large") and accepts_tree(
        signature, kinds, common, table, not_above(table, number), value[1])


class Stopped(Exception):
    """What is told instead of all trees."""


def conditions(own, opposite, case, s):
    """Point 141: m, and of each condition a triple of the case, the table and the numbers; meets can be "large"."""
    m = meet(case, own[s])
    yield None, (m, own, not_above(own, s))
    yield None, (m, opposite, all_numbers(opposite))
    for k, pattern in enumerate(opposite):
        if pattern in own and not is_below(pattern, own[s]):
            lower = meet(m, pattern)
            if lower is not None:
                yield k, (lower, opposite, not_above(opposite, k))


def lone(own, opposite, case):
    """The numbers of the lone patterns that meet the case."""
    return [s for s, pattern in enumerate(own) if pattern not in opposite and meet(case, pattern) is not None]


def told_alike_in(signature, kinds, one, other, case, finite):
    """Point 146."""
    def tree(question):
        if question[0] == "large":
            raise Stopped("terms")
        told = told_cover_evidence(signature, kinds, *question, finite)
        if isinstance(told, str):
            raise Stopped(told)
        if told[0] == "left":
            raise Stopped(("unlike", told[1], answer(one, told[1]), answer(other, told[1])))
        return told[1]

    def items(own, opposite):
        found = []
        for s in lone(own, opposite, case):
            trees = []
            for k, question in conditions(own, opposite, case, s):
                trees.append((k, tree(question)))
            found.append((s, trees[0][1], trees[1][1], tuple(trees[2:])))
        return tuple(found)
    try:
        return ("alike", items(one, other), items(other, one))
    except Stopped as stopped:
        return stopped.args[0]


def accepts_alike_in(signature, kinds, one, other, case, value):
    if has_true_or_false(value) or not isinstance(value, tuple) or not value:
        return False
    if value[0] == "unlike" and len(value) == 4:
        values = value[1]
        if not are_values(signature, kinds, values) or match(case, values) is None:
            return False
        return value[2:] == (answer(one, values), answer(other, values)) and outcome(one, values) != outcome(other, values)
    return value[0] == "alike" and len(value) == 3 and accepts_items(
        signature, kinds, one, other, case, value[1]) and accepts_items(signature, kinds, other, one, case, value[2])


def accepts_items(signature, kinds, own, opposite, case, items):
    numbers = lone(own, opposite, case)
    if not isinstance(items, tuple) or len(items) != len(numbers):
        return False
    for s, item in zip(numbers, items):
        if not isinstance(item, tuple) or len(item) != 4 or item[0] != s or not isinstance(item[3], tuple):
            return False
        if meet(case, own[s]) == "large":
            return False
        asked = list(conditions(own, opposite, case, s))
        if not all(isinstance(pair, tuple) and len(pair) == 2 for pair in item[3]):
            return False
        given = [(None, item[1]), (None, item[2]), *item[3]]
        if [k for k, _ in asked] != [k for k, _ in given]:
            return False
        for (_, (here, table, numbers_asked)), (_, tree) in zip(asked, given):
            if here == "large" or not accepts_tree(signature, kinds, here, table, numbers_asked, tree):
                return False
    return True


# Programs.

def definitions_on(program, uses):
    """Points 147 to 149."""
    found = set()
    for use in uses:
        told = plain_programs.done(program, use)
        if isinstance(told, str):
            return told
        if told[0] == "two":
            return ("not", "two")
        pairs = [row[:2] for row in told[1]] + (list(told[2]) if len(told) > 2 else [])
        for one, pattern in pairs:
            found |= {number for number, (name, known, _) in enumerate(program[2]) if (name, known) == (one[0], pattern)}
    return tuple(sorted(found))
