"""Trees that show that patterns cover a case: the told one, and those of somebody else."""

from closestfit.errors import TooLarge
from closestfit.forms import has_word, is_index, is_integer, is_tuple_of
from closestfit.matching import is_instance
from closestfit.splits import parts_of_split, told_split

MOST_LEAVES = 300


def told_cover(store, kinds, case, table, numbers):
    """("covered", tree) with the told tree, or ("left", case) with the first case that is left."""
    patterns = [table[number] for number in numbers]
    # Of each tree that is passed the number at its top, and how many trees stand in it: none in a leaf.
    tops = []
    leaves = 0
    waiting = [case]
    while waiting:
        at = waiting.pop()
        above = [number for number in numbers if is_instance(store, table[number], at)]
        if above:
            tops.append((above[0], 0))
            leaves += 1
            if leaves == MOST_LEAVES and waiting:
                raise TooLarge("cases")
            continue
        variable = told_split(store, kinds, at, patterns)
        if variable is None:
            return ("left", at)
        parts = parts_of_split(store, at, variable, store.variables(kinds, at)[variable])
        tops.append((variable, len(parts)))
        waiting += parts[::-1]
    return ("covered", built(tops))


def built(tops):
    """The tree that has these tops, from the top downwards and from left to right."""
    done = []
    for number, many in tops[::-1]:
        trees = tuple([done.pop() for _ in range(many)])
        done.append(("split", number, trees) if many else ("by", number))
    return done[0]


def is_tree(store, kinds, case, table, numbers, tree):
    """Whether this is a tree for the case and the patterns with these numbers."""
    leaves = 0
    waiting = [(tree, case)]
    while waiting:
        # Each tree that waits has a leaf at least.
        if leaves + len(waiting) > MOST_LEAVES:
            return False
        top, at = waiting.pop()
        if has_word(top, "by", 2):
            if not is_leaf(store, at, table, numbers, top[1]):
                return False
            leaves += 1
            continue
        parts = read_split(store, kinds, at, top)
        if parts is None:
            return False
        waiting += list(zip(top[2], parts))[::-1]
    return True


def is_leaf(store, case, table, numbers, number):
    return is_index(number, len(table)) and number in numbers and is_instance(store, table[number], case)


def read_split(store, kinds, case, top):
    """The parts of the split at the top of a tree, if it has a tree for each of them, otherwise None."""
    if not has_word(top, "split", 3) or not is_integer(top[1]):
        return None
    kind = store.variables(kinds, case).get(top[1])
    if kind is None or store.shapes.is_open[kind]:
        return None
    many = store.shapes.width(kind)
    return parts_of_split(store, case, top[1], kind) if is_tuple_of(top[2], many, many) else None
