"""Points 150 to 161, read plainly: slow, for small things only, and apart from the program.

Modules are the document's tuples. What cannot be told is the word of
TooLarge, or ("not", word) for NotPossible.
"""

import itertools

from tests import plain, plain_programs
from tests.plain_cases import (accepts_tree, has_true_or_false, is_made, is_stranger, is_variable, kinds_of_variables,
                               told_cover_evidence)
from tests.plain_programs import choice, is_use, kinds_of, numbers_of, patterns_of
from tests.plain_tables import is_pair_of, not_above, renamed


def are_ascending(value, many):
    return isinstance(value, tuple) and all(type(item) is int for item in value) and all(
        0 <= item < many for item in value) and list(value) == sorted(set(value))


def reach(imports, unit):
    found = set(unit)
    while True:
        more = found | {far for near in found for far in imports[near]}
        if more == found:
            return found
        found = more


def names(terms):
    """The constructors and generics that stand in the terms."""
    found = set()
    for term in terms:
        if not is_variable(term) and not is_stranger(term):
            found |= {term[0]} | names(term[1:])
    return found


def has_stranger(terms):
    return any(is_stranger(term) or is_made(term) and has_stranger(term[1:]) for term in terms)


def module_of(program, modules, name):
    found = {own: module for row, places in zip(program[0], modules[1]) for (own, _), module in zip(row[1], places)}
    found.update({own: module for (own, _, _), module in zip(program[1], modules[2])})
    return found[name]


def is_tuple_for(value, things, many):
    return isinstance(value, tuple) and len(value) == len(things) and all(
        type(item) is int and 0 <= item < many for item in value)


def is_modules(program, value):
    """Points 150 and 151."""
    if not isinstance(value, tuple) or len(value) != 4:
        return False
    imports, constructors, generics, definitions = value
    if not isinstance(imports, tuple) or not 1 <= len(imports) <= 6:
        return False
    many = len(imports)
    if not all(are_ascending(row, many) and at not in row for at, row in enumerate(imports)):
        return False
    if not isinstance(constructors, tuple) or len(constructors) != len(program[0]):
        return False
    if not all(is_tuple_for(places, row[1], many) for places, row in zip(constructors, program[0])):
        return False
    if not is_tuple_for(generics, program[1], many) or not is_tuple_for(definitions, program[2], many):
        return False
    if any(how == "closed" and len(set(places)) > 1 for (how, _), places in zip(program[0], constructors)):
        return False

    def reaches(module, kinds):
        closed = [constructors[kind][0] for kind in kinds if program[0][kind][0] == "closed"]
        return set(closed) <= reach(imports, (module,))
    for places, (_, row) in zip(constructors, program[0]):
        if not all(reaches(module, parts) for module, (_, parts) in zip(places, row)):
            return False
    if not all(reaches(module, (*kinds, kind)) for module, (_, kinds, kind) in zip(generics, program[1])):
        return False
    return all(module_of(program, value, name) in reach(imports, (module,))
               for module, (own, pattern, body) in zip(definitions, program[2]) for name in {own} | names((*pattern, body)))


def program_of(program, modules, unit):
    seen = reach(modules[0], unit)
    return (*program[:2], tuple(row for row, module in zip(program[2], modules[3]) if module in seen))


def cut_signature(program, modules, unit):
    """Point 155."""
    seen = reach(modules[0], unit)
    made = {}
    # Each round finds the kinds with a value one step higher.
    for _ in range(3):
        for kind, (_, row) in enumerate(program[0]):
            for name, parts in row:
                if module_of(program, modules, name) in seen and all(part in made for part in parts):
                    made[kind] = True
    found = []
    for _, row in program[0]:
        left = tuple((name, parts) for name, parts in row
                     if module_of(program, modules, name) in seen and all(part in made for part in parts))
        found.append(("closed", left) if left else ("open", ()))
    return tuple(found)


def can_write(program, modules, unit, use):
    return all(module_of(program, modules, name) in reach(modules[0], unit) for name in names((use,)))


def without(program, modules, number):
    return tuple(at for at in range(len(modules[0])) if modules[3][number] not in reach(modules[0], (at,)))


def starts(program, modules, number):
    name, pattern, _ = program[2][number]
    return {module_of(program, modules, own) for own in {name} | names(pattern)}


def all_paths(modules, begin, end):
    """All paths without a module twice."""
    found = []

    def go(path):
        if path[-1] == end:
            found.append(path)
        for far in modules[0][path[-1]]:
            if far not in path:
                go((*path, far))
    go((begin,))
    return found


def told_path(program, modules, number):
    found = [path for begin in starts(program, modules, number) for path in all_paths(modules, begin, modules[3][number])]
    return min(found, key=lambda path: (len(path), path), default=None)


def accepts_path(program, modules, number, path):
    return isinstance(path, tuple) and any(
        path in all_paths(modules, begin, modules[3][number]) for begin in starts(program, modules, number))


def own_number(program, number):
    return numbers_of(program, program[2][number][0]).index(number)


def told_some(program, modules, number, told):
    """The row, or the evidence with "some"."""
    if isinstance(told, str) or told[0] == "covered":
        return renamed(told, {"covered": "never"})
    use = (program[2][number][0], *told[1])
    return ("some", tuple(sorted({module_of(program, modules, name) for name in names((use,))})), use)


def told_row(program, modules, number, finite):
    path = told_path(program, modules, number)
    if path is not None:
        return ("reached", path)
    name, pattern, _ = program[2][number]
    table = patterns_of(program, name)
    numbers = not_above(table, own_number(program, number))
    told = told_cover_evidence(program[0], kinds_of(program, name), pattern, table, numbers, finite)
    return told_some(program, modules, number, told)


def cut_question(program, modules, number):
    """The cut signature, its empty kinds, and the numbers of the patterns that may cover."""
    cut = cut_signature(program, modules, without(program, modules, number))
    left = {name for _, row in cut for name, _ in row}
    table = patterns_of(program, program[2][number][0])
    numbers = tuple(n for n in not_above(table, own_number(program, number)) if names(table[n]) <= left)
    return cut, tuple(kind for kind, (how, _) in enumerate(cut) if how == "open"), left, numbers


def variable_kinds(program, number):
    name, pattern, _ = program[2][number]
    return set(kinds_of_variables(program[0], kinds_of(program, name), pattern).values())


def told_bare_row(program, modules, number):
    path = told_path(program, modules, number)
    if path is not None:
        return ("reached", path)
    cut, empty, _, numbers = cut_question(program, modules, number)
    if variable_kinds(program, number) & set(empty):
        return ("empty", empty)
    name, pattern, _ = program[2][number]
    finite = [plain.finite(cut, kind) for kind in range(len(cut))]
    told = told_cover_evidence(cut, kinds_of(program, name), pattern, patterns_of(program, name), numbers, finite)
    return told_some(program, modules, number, told)


def told_all(program, rows):
    found = []
    for row in rows:
        if isinstance(row, str) or row[0] == "some":
            return row
        found.append(row)
    return ("all", tuple(found))


def told_units(program, modules):
    finite = [plain.finite(program[0], kind) for kind in range(len(program[0]))]
    return told_all(program, (told_row(program, modules, number, finite) for number in range(len(program[2]))))


def told_bare(program, modules):
    return told_all(program, (told_bare_row(program, modules, number) for number in range(len(program[2]))))


def accepts_some(program, modules, value):
    _, unit, use = value
    if not are_ascending(unit, len(modules[0])) or not is_use(program, use, 400):
        return False
    found = choice(program, use)
    return can_write(program, modules, unit, use) and isinstance(found, int) and (
        modules[3][found] not in reach(modules[0], unit))


def accepts_never(program, number, value):
    name, pattern, _ = program[2][number]
    table = patterns_of(program, name)
    return accepts_tree(program[0], kinds_of(program, name), pattern, table, not_above(table, own_number(program, number)), value)


def accepts_all(program, rows, accepts):
    return isinstance(rows, tuple) and len(rows) == len(program[2]) and all(
        isinstance(row, tuple) and len(row) == 2 and accepts(number, *row) for number, row in enumerate(rows))


def accepts_units(program, modules, value):
    if has_true_or_false(value) or not isinstance(value, tuple) or not value:
        return False
    if value[0] == "some" and len(value) == 3:
        return accepts_some(program, modules, value)

    def accepts(number, word, told):
        return (word == "reached" and accepts_path(program, modules, number, told)
                or word == "never" and accepts_never(program, number, told))
    return is_pair_of(value, "all") and accepts_all(program, value[1], accepts)


def accepts_empty(program, modules, number, kinds):
    """Point 157."""
    if not are_ascending(kinds, len(program[0])) or not variable_kinds(program, number) & set(kinds):
        return False
    there = without(program, modules, number)
    return all(set(parts) & set(kinds) for kind in kinds for name, parts in program[0][kind][1]
               if module_of(program, modules, name) in there)


def accepts_cut_never(program, modules, number, tree):
    name, pattern, _ = program[2][number]
    cut, empty, left, numbers = cut_question(program, modules, number)
    if not names(pattern) <= left or variable_kinds(program, number) & set(empty):
        return False
    return accepts_tree(cut, kinds_of(program, name), pattern, patterns_of(program, name), numbers, tree)


def accepts_bare(program, modules, value):
    if has_true_or_false(value) or not isinstance(value, tuple) or not value:
        return False
    if value[0] == "some" and len(value) == 3:
        return accepts_some(program, modules, value) and not has_stranger((value[2],))

    def accepts(number, word, told):
        return (word == "reached" and accepts_path(program, modules, number, told)
                or word == "empty" and accepts_empty(program, modules, number, told)
                or word == "never" and accepts_cut_never(program, modules, number, told))
    return is_pair_of(value, "all") and accepts_all(program, value[1], accepts)


def all_units(modules):
    many = len(modules[0])
    return [unit for size in range(many + 1) for unit in itertools.combinations(range(many), size)]


def unseen(program, modules, use):
    """The units that can write the use and do not see the definition that it chooses."""
    found = choice(program, use)
    if not isinstance(found, int):
        return []
    return [unit for unit in all_units(modules) if can_write(program, modules, unit, use)
            and choice_by(program, modules, unit, use) != program[2][found]]


def choice_by(program, modules, unit, use):
    part = program_of(program, modules, unit)
    found = choice(part, use)
    return part[2][found] if isinstance(found, int) else found


def wanted_modules(program, modules, uses):
    """Point 160."""
    found = {module_of(program, modules, name) for name in names(uses)}
    for use in uses:
        told = plain_programs.done(program, use)
        if isinstance(told, str):
            return told
        if told[0] == "two":
            return ("not", "two")
        for row in (*told[1], *(told[2] if len(told) > 2 else ())):
            found.add(modules[3][choice(program, row[0])])
    return tuple(sorted(found))


def right_imports(modules, unit, wanted):
    """All further imports, the told one first."""
    right = [more for more in all_units(modules) if set(wanted) <= reach(modules[0], (*unit, *more))]
    least = min(len(more) for more in right)
    return sorted(more for more in right if len(more) == least)


def small_uses(program, most=6, strangers=2):
    found = []
    for name in plain_programs.names_of(program):
        rows = [plain.ordered_values(program[0], kind, strangers, 5)[:most] for kind in kinds_of(program, name)]
        found += [(name, *values) for values in itertools.product(*rows)]
    return found


