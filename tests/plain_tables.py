"""Points 62 to 85, read plainly: slow, for small things only, and apart from the program.

A table here is the document's tuple of patterns. What cannot be told is the
word of TooLarge, or ("not", word) for NotPossible.
"""

import itertools

from tests.plain_cases import (accepts_tree, answer, are_values, has_true_or_false, is_below, matching, meet, numbered,
                               told_cover_evidence)


def renamed(told, words):
    return told if isinstance(told, str) else (words[told[0]], told[1])


def below_both(table, i, j):
    return tuple(n for n, pattern in enumerate(table) if is_below(pattern, table[i]) and is_below(pattern, table[j]))


def not_above(table, number):
    return tuple(n for n, pattern in enumerate(table) if not is_below(table[number], pattern))


def pairs(table):
    return list(itertools.combinations(range(len(table)), 2))


def told_clear(signature, kinds, table, finite):
    """Points 64 and 65."""
    rows = []
    for i, j in pairs(table):
        common = meet(table[i], table[j])
        if common == "large":
            return "terms"
        if common is None:
            continue
        told = told_cover_evidence(signature, kinds, common, table, below_both(table, i, j), finite)
        if isinstance(told, str):
            return told
        if told[0] == "left":
            return ("two", told[1])
        rows.append((i, j, told[1]))
    return ("clear", tuple(rows))


def is_pair_of(value, word):
    return isinstance(value, tuple) and len(value) == 2 and value[0] == word


def accepts_clear(signature, kinds, table, value):
    if has_true_or_false(value):
        return False
    if is_pair_of(value, "two"):
        return are_values(signature, kinds, value[1]) and isinstance(answer(table, value[1]), tuple)
    if not is_pair_of(value, "clear") or not isinstance(value[1], tuple):
        return False
    wanted = [(i, j, meet(table[i], table[j])) for i, j in pairs(table)]
    wanted = [row for row in wanted if row[2] is not None]
    if any(row[2] == "large" for row in wanted) or len(wanted) != len(value[1]):
        return False
    return all(isinstance(row, tuple) and len(row) == 3 and row[:2] == (i, j)
               and accepts_tree(signature, kinds, common, table, below_both(table, i, j), row[2])
               for (i, j, common), row in zip(wanted, value[1]))


def all_numbers(table):
    return tuple(range(len(table)))


def told_complete(signature, kinds, table, finite):
    """Point 66."""
    told = told_cover_evidence(signature, kinds, tuple(range(len(kinds))), table, all_numbers(table), finite)
    return renamed(told, {"covered": "complete", "left": "gap"})


def accepts_complete(signature, kinds, table, value):
    if has_true_or_false(value):
        return False
    if is_pair_of(value, "gap"):
        return are_values(signature, kinds, value[1]) and matching(table, value[1]) == ()
    return is_pair_of(value, "complete") and accepts_tree(
        signature, kinds, tuple(range(len(kinds))), table, all_numbers(table), value[1])


def told_chosen(signature, kinds, table, number, finite):
    """Point 67."""
    told = told_cover_evidence(signature, kinds, table[number], table, not_above(table, number), finite)
    return renamed(told, {"covered": "never", "left": "chosen"})


def accepts_chosen(signature, kinds, table, number, value):
    if has_true_or_false(value):
        return False
    if is_pair_of(value, "chosen"):
        return are_values(signature, kinds, value[1]) and answer(table, value[1]) == number
    return is_pair_of(value, "never") and accepts_tree(
        signature, kinds, table[number], table, not_above(table, number), value[1])


def needed_part(signature, kinds, table, finite):
    """Points 68 and 72."""
    told = told_clear(signature, kinds, table, finite)
    if told == "value" or told[0] == "two":
        return ("not", "two")
    if isinstance(told, str):
        return told
    found = []
    for number in range(len(table)):
        told = told_chosen(signature, kinds, table, number, finite)
        if told == "cases":
            return told
        if told == "value" or told[0] == "chosen":
            found.append(table[number])
    return tuple(found)


def told_alike(signature, kinds, table, other, finite):
    """Point 69."""
    parts = []
    for each in (table, other):
        parts.append(needed_part(signature, kinds, each, finite))
        if isinstance(parts[-1], str) or parts[-1][:1] == ("not",):
            return parts[-1]
    for near, far, rows in ((parts[0], parts[1], table), (parts[1], parts[0], other)):
        for pattern in near:
            if pattern not in far:
                told = told_chosen(signature, kinds, rows, rows.index(pattern), finite)
                return renamed(told, {"chosen": "unlike"})
    ones, others = [tuple(told_chosen(signature, kinds, each, number, finite) for number in range(len(each)))
                    for each in (table, other)]
    return "value" if "value" in (*ones, *others) else ("alike", ones, others)


def accepts_alike(signature, kinds, table, other, value):
    if has_true_or_false(value) or not isinstance(value, tuple):
        return False
    if is_pair_of(value, "unlike"):
        if not are_values(signature, kinds, value[1]):
            return False
        near, far = answer(table, value[1]), answer(other, value[1])
        return (table[near] if near != "none" else None) != (other[far] if far != "none" else None)
    if len(value) != 3 or value[0] != "alike":
        return False
    chosen = []
    for each, rows in ((table, value[1]), (other, value[2])):
        if not isinstance(rows, tuple) or len(rows) != len(each):
            return False
        if not all(accepts_chosen(signature, kinds, each, number, row) for number, row in enumerate(rows)):
            return False
        chosen.append({pattern for pattern, row in zip(each, rows) if row[0] == "chosen"})
    return chosen[0] == chosen[1]


# Quarrels.

def meet_of_several(table, numbers):
    found = numbered(table[numbers[0]])
    for number in numbers[1:]:
        if found is None or found == "large":
            return found
        found = meet(found, table[number])
    return found


def all_tuples(table, least):
    found = [numbers for many in range(least, len(table) + 1) for numbers in itertools.combinations(range(len(table)), many)]
    return sorted(found)


def is_large(table):
    return any(meet_of_several(table, numbers) == "large" for numbers in all_tuples(table, 2))


def others_than(table, numbers):
    return tuple(n for n in range(len(table)) if n not in numbers)


def told_quarrel(signature, kinds, table, numbers, finite):
    """Point 77."""
    if is_large(table):
        return "terms"
    common = meet_of_several(table, numbers)
    if common is None:
        return ("apart",)
    if common in table:
        return ("old", table.index(common))
    told = told_cover_evidence(signature, kinds, common, table, others_than(table, numbers), finite)
    return renamed(told, {"covered": "never", "left": "quarrel"})


def quarrels(signature, kinds, table, finite):
    """Points 75 and 84."""
    if is_large(table):
        return "terms"
    told = [(numbers, told_quarrel(signature, kinds, table, numbers, finite)) for numbers in all_tuples(table, 2)]
    if "cases" in [word for _, word in told]:
        return "cases"
    return tuple(numbers for numbers, word in told if word == "value" or word[0] == "quarrel")


def accepts_quarrel(signature, kinds, table, numbers, value):
    if has_true_or_false(value) or not isinstance(value, tuple) or not value:
        return False
    if is_pair_of(value, "quarrel"):
        return (are_values(signature, kinds, value[1]) and isinstance(answer(table, value[1]), tuple)
                and matching(table, value[1]) == numbers)
    common = meet_of_several(table, numbers)
    if value == ("apart",):
        return common is None
    if common is None or len(value) != 2:
        return False
    if value[0] == "old":
        return isinstance(value[1], int) and value[1] in range(len(table)) and table[value[1]] == common
    return value[0] == "never" and common not in table and accepts_tree(
        signature, kinds, common, table, others_than(table, numbers), value[1])


def whole_tuples(table):
    """Point 80: the tuples in the roll, with their meets."""
    found = []
    for numbers in all_tuples(table, 1):
        common = meet_of_several(table, numbers)
        if common is not None and numbers == tuple(n for n, pattern in enumerate(table) if is_below(common, pattern)):
            found.append((numbers, common))
    return found


def told_count(signature, kinds, table, count, finite):
    found = quarrels(signature, kinds, table, finite)
    if isinstance(found, str):
        return found
    if len(found) > count:
        uses = tuple(told_quarrel(signature, kinds, table, numbers, finite) for numbers in found[:count + 1])
        return "value" if "value" in uses else ("few", tuple(values for _, values in uses))
    roll = []
    for numbers, common in whole_tuples(table):
        word = told_quarrel(signature, kinds, table, numbers, finite)
        if word == "value":
            return word
        roll.append((numbers, renamed(word, {"old": "old", "never": "never", "quarrel": "use"})))
    return ("enough", tuple(roll))


def accepts_count(signature, kinds, table, count, value):
    if has_true_or_false(value) or not isinstance(value, tuple) or len(value) != 2 or not isinstance(value[1], tuple):
        return False
    word, rows = value
    if word == "few":
        if not all(are_values(signature, kinds, use) and isinstance(answer(table, use), tuple) for use in rows):
            return False
        return len(rows) == count + 1 and len({matching(table, use) for use in rows}) == len(rows)
    whole = whole_tuples(table)
    if word != "enough" or len(rows) != len(whole) or not all(isinstance(row, tuple) and len(row) == 2 for row in rows):
        return False
    if not all(is_in_roll(signature, kinds, table, numbers, common, row)
               for (numbers, common), row in zip(whole, rows)):
        return False
    return sum(row[1][0] == "use" for row in rows) <= count


def is_in_roll(signature, kinds, table, numbers, common, row):
    if row[0] != numbers or not isinstance(row[1], tuple) or len(row[1]) != 2:
        return False
    if row[1][0] == "use":
        return common not in table and are_values(signature, kinds, row[1][1]) and matching(table, row[1][1]) == numbers
    return row[1][0] in ("old", "never") and accepts_quarrel(signature, kinds, table, numbers, row[1])
