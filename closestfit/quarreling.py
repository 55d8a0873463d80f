"""Quarrels of a table, and how many further patterns make it clear, about nodes of a store.

Of each ascending tuple of numbers whose patterns have a meet, `meets` has the
meet; the tuples are in ascending order.
"""

from closestfit.choosing import answer, matching_numbers
from closestfit.clearing import asked, values_of, with_values
from closestfit.forms import has_word, is_index, is_tuple_of
from closestfit.meeting import small_meet
from closestfit.trees import is_tree


def meets_of_all(store, kinds, table):
    """The meets; raises TooLarge if one of them has more than 60 places."""
    meets = {}
    waiting = [((number,), pattern) for number, pattern in enumerate(table)][::-1]
    while waiting:
        numbers, meet = waiting.pop()
        meets[numbers] = meet
        further = []
        for number in range(numbers[-1] + 1, len(table)):
            lower = small_meet(store, kinds, meet, table[number])
            if lower is not None:
                further.append(((*numbers, number), lower))
        waiting += further[::-1]
    return meets


def others_than(table, numbers):
    return tuple([number for number in range(len(table)) if number not in numbers])


def found_word(store, kinds, table, meets, numbers):
    """("apart",), ("old", number), ("never", tree), or ("use", what is left)."""
    if numbers not in meets:
        return ("apart",)
    meet = meets[numbers]
    # Both are numbered, so they are alike only if they are equal.
    if meet in table:
        return ("old", table.index(meet))
    return asked(store, kinds, meet, table, others_than(table, numbers), ("never", "use"))


def found_roll(store, kinds, table, meets):
    """The pairs of numbers and what was found about them, of all tuples that are in a roll."""
    # All other tuples are no quarrels: one more pattern has their whole meet.
    return [(numbers, found_word(store, kinds, table, meets, numbers)) for numbers in whole_ones(store, table, meets)]


def whole_ones(store, table, meets):
    """The tuples that have the numbers of all patterns that their meet is an instance of."""
    return [numbers for numbers in meets if matching_numbers(store, table, meets[numbers]) == numbers]


def quarrels_in(roll):
    return [numbers for numbers, found in roll if found[0] == "use"]


def told_quarrel(store, kinds, table, meets, numbers):
    found = with_values(store, kinds, found_word(store, kinds, table, meets, numbers), "use")
    return ("quarrel", found[1]) if found[0] == "use" else found


def told_count(store, kinds, table, meets, count):
    roll = found_roll(store, kinds, table, meets)
    many = len(quarrels_in(roll))
    if many <= count:
        return ("enough", tuple([(numbers, with_values(store, kinds, found, "use")) for numbers, found in roll]))
    uses = [found for _, found in roll if found[0] == "use"][:count + 1]
    return ("few", tuple([with_values(store, kinds, found, "use")[1] for found in uses]))


def shows_quarrel(store, kinds, table, meets, numbers, value):
    """Whether the value is evidence of any of the four words about the numbers."""
    if has_word(value, "quarrel", 2):
        values = values_of(store, kinds, value[1])
        return values is not None and is_quarrel_at(store, table, values) and (
            matching_numbers(store, table, values) == numbers)
    if numbers not in meets:
        return has_word(value, "apart", 1)
    return is_old_or_never(store, kinds, table, meets, numbers, value)


def is_quarrel_at(store, table, values):
    return isinstance(answer(store, table, values), tuple)


def is_old_or_never(store, kinds, table, meets, numbers, value):
    """Whether the value shows that the table has the meet, or that other patterns cover it."""
    meet = meets[numbers]
    if meet in table:
        return has_word(value, "old", 2) and is_index(value[1], len(table)) and table[value[1]] == meet
    if not has_word(value, "never", 2):
        return False
    return is_tree(store, kinds, meet, table, others_than(table, numbers), value[1])


def shows_count(store, kinds, table, meets, count, value):
    """Whether the value is evidence of either word about the count."""
    if has_word(value, "few", 2):
        return are_few(store, kinds, table, count, value[1])
    return has_word(value, "enough", 2) and is_roll(store, kinds, table, meets, count, value[1])


def are_few(store, kinds, table, count, uses):
    if not is_tuple_of(uses, count + 1, count + 1):
        return False
    seen = {}
    for use in uses:
        values = values_of(store, kinds, use)
        if values is None or not is_quarrel_at(store, table, values):
            return False
        seen[matching_numbers(store, table, values)] = True
    return len(seen) == len(uses)


def is_roll(store, kinds, table, meets, count, roll):
    """Whether this is the roll of the table with at most so many uses."""
    whole = whole_ones(store, table, meets)
    if not is_tuple_of(roll, len(whole), len(whole)):
        return False
    if not all([is_pair_of_roll(store, kinds, table, meets, *both) for both in zip(whole, roll)]):
        return False
    return sum([1 for _, word in roll if word[0] == "use"]) <= count


def is_pair_of_roll(store, kinds, table, meets, numbers, pair):
    if not is_tuple_of(pair, 2, 2) or not are_numbers(pair[0], numbers):
        return False
    word = pair[1]
    if not has_word(word, "use", 2):
        return is_old_or_never(store, kinds, table, meets, numbers, word)
    values = values_of(store, kinds, word[1])
    return meets[numbers] not in table and values is not None and (
        matching_numbers(store, table, values) == numbers)


def are_numbers(value, numbers):
    """Whether whatever is judged is this tuple of numbers."""
    if not is_tuple_of(value, len(numbers), len(numbers)):
        return False
    return all([is_index(number, right + 1) and number == right for number, right in zip(value, numbers)])
