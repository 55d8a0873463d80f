"""What a table chooses in a case, and tables that answer alike in a case, about nodes of a store.

What is left is told as in clearing.py: a case and the patterns that do not
cover it.
"""

from closestfit.choosing import answer, is_below_pattern, is_choice
from closestfit.clearing import all_numbers, asked, with_values
from closestfit.covering import instance_of
from closestfit.equations import MOST_IN_MEET
from closestfit.fixing import not_above
from closestfit.forms import has_word, is_integer, is_tuple_of
from closestfit.meeting import meet_nodes, small_meet
from closestfit.trees import is_tree

SETTLED_WORDS = ("settled", "unlike")


def found_chosen_in(store, kinds, table, case, number):
    """("apart",), ("never", tree), or ("chosen", what is left)."""
    meet = small_meet(store, kinds, case, table[number])
    if meet is None:
        return ("apart",)
    return asked(store, kinds, meet, table, tuple(not_above(store, table, number)), ("never", "chosen"))


def told_chosen_in(store, kinds, table, case, number):
    return with_values(store, kinds, found_chosen_in(store, kinds, table, case, number), "chosen")


def shows_chosen_in(store, kinds, table, case, number, value):
    """Whether the value is evidence of any of the three words."""
    if has_word(value, "chosen", 2):
        values = instance_of(store, kinds, case, value[1])
        return values is not None and is_choice(store, table, values, number)
    meet = meet_nodes(store, kinds, case, table[number])
    if meet is None:
        return has_word(value, "apart", 1)
    if not has_word(value, "never", 2):
        return False
    return is_tree_for_meet(store, kinds, meet, table, tuple(not_above(store, table, number)), value[1])


def is_tree_for_meet(store, kinds, meet, table, numbers, tree):
    """Whether this is a tree for a meet that has at most 60 places."""
    return store.places(meet) <= MOST_IN_MEET and is_tree(store, kinds, meet, table, numbers, tree)


def lone_numbers(own, opposite):
    """The numbers of the patterns that the opposite table does not have."""
    # Patterns are numbered, so alike ones are equal.
    return [number for number, pattern in enumerate(own) if pattern not in opposite]


def common_numbers(store, own, opposite, s):
    """The numbers in the opposite table of the patterns that both have and that are not below the pattern s."""
    return [k for k, pattern in enumerate(opposite)
            if pattern in own and not is_below_pattern(store, pattern, own[s])]


def found_settled(store, kinds, own, opposite, case, s):
    """None if the lone pattern s does not meet the case; ("settled", item), or ("unlike", what is left)."""
    meet = small_meet(store, kinds, case, own[s])
    if meet is None:
        return None
    trees = []
    for table, numbers in ((own, tuple(not_above(store, own, s))), (opposite, all_numbers(opposite))):
        found = asked(store, kinds, meet, table, numbers, SETTLED_WORDS)
        if found[0] == "unlike":
            return found
        trees.append(found[1])
    pairs = []
    for k in common_numbers(store, own, opposite, s):
        lower = small_meet(store, kinds, meet, opposite[k])
        if lower is None:
            continue
        found = asked(store, kinds, lower, opposite, tuple(not_above(store, opposite, k)), SETTLED_WORDS)
        if found[0] == "unlike":
            return found
        pairs.append((k, found[1]))
    return ("settled", (s, *trees, tuple(pairs)))


def found_alike_in(store, kinds, one, other, case):
    """("alike", ones, others), or ("unlike", what is left) of the first lone pattern that is not settled."""
    rows = []
    for own, opposite in ((one, other), (other, one)):
        items = []
        for s in lone_numbers(own, opposite):
            found = found_settled(store, kinds, own, opposite, case, s)
            if found is not None and found[0] == "unlike":
                return found
            if found is not None:
                items.append(found[1])
        rows.append(tuple(items))
    return ("alike", *rows)


def told_alike_in(store, kinds, one, other, case):
    found = with_values(store, kinds, found_alike_in(store, kinds, one, other, case), "unlike")
    if found[0] == "alike":
        return found
    values = instance_of(store, kinds, case, found[1])
    return (*found, answer(store, one, values), answer(store, other, values))


def shows_alike_in(store, kinds, one, other, case, value):
    """Whether the value is evidence of either word about the two tables in the case."""
    if has_word(value, "unlike", 4):
        return are_unlike_at(store, one, other, instance_of(store, kinds, case, value[1]), value[2:])
    if not has_word(value, "alike", 3):
        return False
    return are_settled(store, kinds, one, other, case, value[1]) and (
        are_settled(store, kinds, other, one, case, value[2]))


def are_unlike_at(store, one, other, values, answers):
    """Whether these are the two answers at the values, and not alike."""
    if values is None:
        return False
    found = [answer(store, one, values), answer(store, other, values)]
    if not all([is_answer(right, value) for right, value in zip(found, answers)]):
        return False
    return outcome(one, found[0]) != outcome(other, found[1])


def is_answer(right, value):
    """Whether whatever is judged is this answer."""
    if isinstance(right, int):
        return is_the_number(right, value)
    if isinstance(right, str):
        return isinstance(value, str) and value == right
    return has_word(value, "two", 3) and all([is_the_number(near, far) for near, far in zip(right[1:], value[1:])])


def is_the_number(right, value):
    return is_integer(value) and value == right


def outcome(table, found):
    """What must be the same where two tables answer alike: the chosen pattern, or the word of the answer."""
    if isinstance(found, int):
        return table[found]
    return found if isinstance(found, str) else found[0]


def are_settled(store, kinds, own, opposite, case, items):
    """Whether the items show that each lone pattern of the own table that meets the case is settled in it."""
    wanted = [(s, meet_nodes(store, kinds, case, own[s])) for s in lone_numbers(own, opposite)]
    wanted = [(s, meet) for s, meet in wanted if meet is not None]
    if not is_tuple_of(items, len(wanted), len(wanted)):
        return False
    return all([is_settled(store, kinds, own, opposite, *both, item) for both, item in zip(wanted, items)])


def is_settled(store, kinds, own, opposite, s, meet, item):
    """Whether the item shows that the lone pattern s is settled, where it has this meet with the case."""
    if not is_tuple_of(item, 4, 4) or not is_the_number(s, item[0]):
        return False
    if not is_tree_for_meet(store, kinds, meet, own, tuple(not_above(store, own, s)), item[1]):
        return False
    if not is_tree_for_meet(store, kinds, meet, opposite, all_numbers(opposite), item[2]):
        return False
    lower = [(k, meet_nodes(store, kinds, meet, opposite[k])) for k in common_numbers(store, own, opposite, s)]
    lower = [(k, both) for k, both in lower if both is not None]
    if not is_tuple_of(item[3], len(lower), len(lower)):
        return False
    return all([is_kept(store, kinds, opposite, *both, pair) for both, pair in zip(lower, item[3])])


def is_kept(store, kinds, opposite, k, meet, pair):
    """Whether the pair shows that the opposite table never chooses its pattern k where this meet is."""
    if not is_tuple_of(pair, 2, 2) or not is_the_number(k, pair[0]):
        return False
    return is_tree_for_meet(store, kinds, meet, opposite, tuple(not_above(store, opposite, k)), pair[1])
