"""Points 86 to 111, read plainly: slow, for small things only, and apart from the program."""

import re

from closestfit.choice import is_table
from closestfit.kinds import is_signature, is_value
from closestfit.patterns import is_pattern
from tests.plain import constructors, places
from tests.plain_cases import (accepts_tree, answer, are_values, has_true_or_false, is_below, kinds_of_variables, match, matching,
                               meet, numbered, put, size, told_cover_evidence, variables_in)
from tests.plain_tables import below_both, not_above, pairs


def is_generic(signature, value):
    if not isinstance(value, tuple) or len(value) != 3:
        return False
    name, kinds, kind = value
    if not isinstance(name, str) or not re.fullmatch("[A-Z][a-z]{0,7}", name) or "\n" in name:
        return False
    indexes = [kind, *kinds] if isinstance(kinds, tuple) else []
    return 2 <= len(indexes) <= 4 and all(isinstance(index, int) and not isinstance(index, bool)
                                          and 0 <= index < len(signature) for index in indexes)


def is_body(signature, generics, kind, known, value):
    if isinstance(value, int) and not isinstance(value, bool):
        return known.get(value) == kind
    if not isinstance(value, tuple) or not value or not isinstance(value[0], str):
        return False
    parts = constructors(signature, kind).get(value[0])
    for name, kinds, result in generics:
        if name == value[0] and result == kind:
            parts = kinds
    return parts is not None and len(parts) == len(value) - 1 and all(
        is_body(signature, generics, part, known, inner) for part, inner in zip(parts, value[1:]))


def body_places(body):
    return 1 if isinstance(body, int) else 1 + sum(body_places(part) for part in body[1:])


def is_program(value):
    if not isinstance(value, tuple) or len(value) != 3 or not is_signature(value[0]):
        return False
    signature, generics, definitions = value
    if not isinstance(generics, tuple) or not 1 <= len(generics) <= 4 or not all(is_generic(signature, row) for row in generics):
        return False
    table = {name: (kinds, kind) for name, kinds, kind in generics}
    if len(table) < len(generics) or not isinstance(definitions, tuple) or len(definitions) > 16:
        return False
    for row in definitions:
        if not isinstance(row, tuple) or len(row) != 3 or not isinstance(row[0], str) or row[0] not in table:
            return False
        kinds, kind = table[row[0]]
        if not is_pattern(signature, kinds, row[1]) or size(row[1]) > 12:
            return False
        if not is_body(signature, generics, kind, kinds_of_variables(signature, kinds, row[1]), row[2]) or body_places(row[2]) > 12:
            return False
    return all(is_table(signature, table[name][0], patterns_of((signature, generics, definitions), name)) for name in table)


def patterns_of(program, name):
    return tuple(pattern for own, pattern, _ in program[2] if own == name)


def numbers_of(program, name):
    return [number for number, row in enumerate(program[2]) if row[0] == name]


def kinds_of(program, name):
    return [kinds for own, kinds, _ in program[1] if own == name][0]


def result_of(program, name):
    return [kind for own, _, kind in program[1] if own == name][0]


def names_of(program):
    return [name for name, _, _ in program[1]]


def is_use(program, value, most=60):
    if not isinstance(value, tuple) or not value or not isinstance(value[0], str) or value[0] not in names_of(program):
        return False
    kinds = kinds_of(program, value[0])
    return len(value) == len(kinds) + 1 and all(is_value(program[0], kind, part) and places(part) <= most
                                                for kind, part in zip(kinds, value[1:]))


def choice(program, use):
    """Point 89."""
    found = answer(patterns_of(program, use[0]), use[1:])
    numbers = numbers_of(program, use[0])
    if found == "none":
        return found
    return numbers[found] if isinstance(found, int) else ("two", numbers[found[1]], numbers[found[2]])


def step(program, use):
    _, pattern, body = program[2][choice(program, use)]
    return put((body,), match(pattern, use[1:]))[0]


def is_use_of(program, term):
    return isinstance(term, tuple) and term[0] in names_of(program)


def listed(program, body, before=()):
    """Point 90: the paths of the uses, in the order in which they are done."""
    if isinstance(body, int):
        return []
    found = [path for k, part in enumerate(body[1:]) for path in listed(program, part, (*before, k))]
    return [*found, before] if is_use_of(program, body) else found


def body_at(body, path):
    for k in path:
        body = body[k + 1]
    return body


def first_unflat(program):
    """Point 92."""
    for number, (name, pattern, body) in enumerate(program[2]):
        heads = list(pattern[0][1:]) if isinstance(pattern[0], tuple) else [pattern[0]]
        rest = [*heads, *pattern[1:]]
        if not all(isinstance(term, int) for term in rest) or len(set(rest)) < len(rest):
            return number, None
        for path in listed(program, body):
            first = body_at(body, path)[1]
            if listed(program, first) or not set(variables_in((first,))) <= set(variables_in(pattern[:1])):
                return number, path
    return None


# Sound uses.

def without_uses(program, term, following):
    """The term with new variables for its inner uses, which following gives."""
    if isinstance(term, int):
        return term
    if is_use_of(program, term):
        return next(following)
    return (term[0], *[without_uses(program, part, following) for part in term[1:]])


def joint_case(program, number, path):
    """Point 93."""
    name, pattern, body = program[2][number]
    use = body_at(body, path)
    start = len(variables_in(pattern))
    following = iter(range(start, start + 99))
    kinds = (*kinds_of(program, name), *kinds_of(program, use[0]))
    case = (*pattern, *[without_uses(program, part, following) for part in use[1:]])
    here = patterns_of(program, name)
    own = here.index(pattern)
    table = []
    for s in not_above(here, own):
        table.append((*here[s], *range(100, 100 + len(use) - 1)))
    many = len(pattern)
    for fit in patterns_of(program, use[0]):
        table.append((*range(100, 100 + many), *put(fit, {v: v + 200 for v in variables_in(fit)})))
    return kinds, case, tuple(numbered(row) for row in table)


def parts_of_joint(program, number, path):
    """The numbers of takers, and the rows of point 95: triples of one, other and the wanted meet, which can be "large"."""
    kinds, case, table = joint_case(program, number, path)
    name = body_at(program[2][number][2], path)[0]
    there = patterns_of(program, name)
    takers = len(table) - len(there)
    rows = []
    for i, j in pairs(there):
        common = meet(table[takers + i], table[takers + j])
        if common not in (None, "large"):
            common = meet(common, case)
        if common is not None:
            numbers = (*range(takers), *[takers + n for n in below_both(there, i, j)])
            rows.append((i, j, common, numbers))
    return kinds, case, table, rows


def told_use(program, number, path, finite):
    """The told evidence, or the word of TooLarge."""
    signature = program[0]
    kinds, case, table, rows = parts_of_joint(program, number, path)
    told = told_cover_evidence(signature, kinds, case, table, tuple(range(len(table))), finite)
    found = []
    if told[0] == "covered":
        tree = told[1]
        for i, j, common, numbers in rows:
            if common == "large":
                return "terms"
            told = told_cover_evidence(signature, kinds, common, table, numbers, finite)
            if told[0] != "covered":
                break
            found.append((i, j, told[1]))
        else:
            return ("sound", tree, tuple(found))
    if isinstance(told, str):
        return told
    what = match(case, told[1])
    pattern = program[2][number][1]
    return ("stuck", told[1][:len(pattern)], tuple(what[v] for v in variables_in(case) if v not in variables_in(pattern)))


def is_told_stuck(told):
    return told == "value" or told[0] == "stuck"


def accepts_use(program, number, path, value):
    if has_true_or_false(value) or not isinstance(value, tuple) or len(value) != 3:
        return False
    signature = program[0]
    kinds, case, table, rows = parts_of_joint(program, number, path)
    name, pattern, body = program[2][number]
    if value[0] == "stuck":
        standing = kinds_of_variables(signature, kinds, case)
        new = [v for v in variables_in(case) if v not in variables_in(pattern)]
        if not are_values(signature, kinds_of(program, name), value[1]):
            return False
        if not isinstance(value[2], tuple) or not are_values(signature, tuple(standing[v] for v in new), value[2]):
            return False
        if choice(program, (name, *value[1])) != number:
            return False
        arguments = put(case[len(pattern):], {**match(pattern, value[1]), **dict(zip(new, value[2]))})
        return not isinstance(choice(program, (body_at(body, path)[0], *arguments)), int)
    if value[0] != "sound" or "large" in [row[2] for row in rows] or not isinstance(value[2], tuple):
        return False
    if not accepts_tree(signature, kinds, case, table, tuple(range(len(table))), value[1]) or len(rows) != len(value[2]):
        return False
    return all(isinstance(row, tuple) and len(row) == 3 and row[:2] == (i, j)
               and accepts_tree(signature, kinds, common, table, numbers, row[2])
               for (i, j, common, numbers), row in zip(rows, value[2]))


# Doing uses.

class Large(Exception):
    pass


class Trouble(Exception):
    pass


def done(program, use):
    """The told evidence of point 104, or the word of TooLarge."""
    rows, trail, begun = {}, [], []
    patterns = [pattern for _, pattern, _ in program[2]]

    def value_of(term):
        """What a part of a step comes to, its uses done as listed."""
        if isinstance(term, tuple) and term[0] != "#":
            parts = [value_of(part) for part in term[1:]]
            term = (term[0], *parts)
            return do(term) if is_use_of(program, term) else term
        return term

    def do(here):
        if any(places(part) > 400 for part in here[1:]):
            raise Large("value")
        if here in rows:
            return rows[here][1]
        if here in [one for one, _ in trail]:
            raise Trouble("round", here)
        if len(begun) == 60:
            raise Large("rows")
        begun.append(here)
        number = choice(program, here)
        if number == "none":
            raise Trouble("none", here)
        if not isinstance(number, int):
            raise Trouble("two", here, *[patterns[each] for each in number[1:]])
        trail.append((here, patterns[number]))
        worth = value_of(step(program, here))
        if places(worth) > 400:
            raise Large("value")
        rows[here] = (patterns[number], worth)
        trail.pop()
        return worth

    def told_rows():
        return tuple((here, pattern, worth) for here, (pattern, worth) in rows.items())
    try:
        do(use)
        return ("value", told_rows())
    except Large as error:
        return error.args[0]
    except Trouble as error:
        return (error.args[0], told_rows(), tuple(trail), *error.args[1:])


def is_pair_list(value, length):
    return isinstance(value, tuple) and all(isinstance(row, tuple) and len(row) == length for row in value)


def first_unknown(program, known, number, use):
    """("use", the first listed use in the step without a row), or ("value", what the step comes to)."""
    def value_of(term):
        if isinstance(term, tuple) and term[0] != "#":
            term = (term[0], *[value_of(part) for part in term[1:]])
            if is_use_of(program, term):
                if term not in known:
                    raise Trouble(term)
                return known[term]
        return term
    try:
        return "value", value_of(step(program, use))
    except Trouble as error:
        return "use", error.args[0]


def right_rows(program, rows):
    """The values of the uses, or None."""
    if has_true_or_false(rows) or not is_pair_list(rows, 3) or len(rows) > 60:
        return None
    known = {}
    for use, pattern, worth in rows:
        if not is_use(program, use, 400) or use in known or not isinstance(choice(program, use), int):
            return None
        number = choice(program, use)
        found = first_unknown(program, known, number, use)
        if program[2][number][1] != pattern or found != ("value", worth) or places(worth) > 400:
            return None
        known[use] = worth
    return known


def accepts_done(program, use, value):
    if has_true_or_false(value) or not isinstance(value, tuple) or not value:
        return False
    word = value[0]
    if word == "value" and len(value) == 2:
        known = right_rows(program, value[1])
        return bool(known) and value[1][-1][0] == use
    if (word, len(value)) not in (("none", 4), ("two", 6), ("round", 4)):
        return False
    known = right_rows(program, value[1])
    trail, last = value[2:4]
    if known is None or not is_pair_list(trail, 2) or not is_use(program, last, 400):
        return False
    here = use
    for one, pattern in trail:
        if one != here or not is_use(program, one, 400) or not isinstance(choice(program, one), int):
            return False
        if program[2][choice(program, one)][1] != pattern:
            return False
        kind, here = first_unknown(program, known, choice(program, one), one)
        if kind != "use":
            return False
    uses = [one for one, _ in trail]
    if here != last or len(known) + len({*uses, last}) > 60:
        return False
    if word == "round":
        return last in uses and len(set(uses)) == len(uses)
    if word == "none":
        return choice(program, last) == "none"
    table = patterns_of(program, last[0])
    found = [table[n] for n in matching(table, last[1:])]
    return value[4] in found and value[5] in found and not any(
        is_below(pattern, value[4]) and is_below(pattern, value[5]) for pattern in found)
