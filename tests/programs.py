"""Programs by dice that always fall the same way, and the programs of the examples."""

import random

from closestfit.clear import is_ever_chosen
from closestfit.programs import is_program
from tests import plain, plain_cases, plain_units
from tests.makers import some_pattern
from tests.samples import NUMBERS, TYPES, some_signatures

NAMES = ("Add", "B", "Cee", "Dddddddd", "Ex", "F")


def some_body(program, kind, known, dice, most, flat=()):
    """A body of the kind with at most so many places, or None; flat are the variables that may stand in first arguments."""
    signature, generics = program
    ways = [(variable,) for variable, near in known.items() if near == kind]
    if most > 1:
        ways += [(name, *parts) for name, parts in signature[kind][1] if len(parts) < most] * (1 if dice.random() < 0.7 else 2)
        ways += [(name, *kinds) for name, kinds, result in generics if result == kind and len(kinds) < most] * 2
    else:
        ways += [(name,) for name, parts in signature[kind][1] if not parts]
    while ways:
        way = dice.choice(ways)
        if isinstance(way[0], int):
            return way[0]
        parts = []
        left = most - 1
        for i, part in enumerate(way[1:]):
            room = left - (len(way) - 2 - i)
            narrow = flat != () and i == 0 and way[0][0].isupper()
            inner = (signature, ()) if narrow else program
            variables = {v: near for v, near in known.items() if v in flat} if narrow else known
            parts.append(some_body(inner, part, variables, dice, max(1, min(room, dice.randint(1, 5))), () if narrow else flat))
            if parts[-1] is None:
                break
            left -= body_places(parts[-1])
        if None not in parts:
            return (way[0], *parts)
        ways = [other for other in ways if other != way]
    return None


def body_places(body):
    return 1 if isinstance(body, int) else 1 + sum(body_places(part) for part in body[1:])


def some_program(signature, dice, most=8, flat=False, lively=0.0):
    kinds = range(len(signature))
    generics = tuple((name, tuple(dice.choice(kinds) for _ in range(dice.randint(1, 2 if lively else 3))), dice.choice(kinds))
                     for name in dice.sample(NAMES, dice.randint(1, 4)))
    found = []
    for _ in range(dice.randint(0, most)):
        name, parameters, kind = dice.choice(generics)
        pattern = flat_pattern(signature, parameters, dice) if flat else some_pattern(
            signature, parameters, dice, dice.randint(1, 4))
        if plain_cases.size(pattern) > 12:
            continue
        known = plain_cases.kinds_of_variables(signature, parameters, pattern)
        firsts = tuple(plain_cases.variables_in(pattern[:1])) + (-1,) if flat else ()
        body = some_body((signature, generics), kind, known, dice, dice.randint(1, 9), firsts)
        if body is not None and pattern not in [one for own, one, _ in found if own == name]:
            found.append((name, pattern, body))
    program = (signature, generics, tuple(found))
    assert is_program(program), program
    return program


def flat_pattern(signature, parameters, dice):
    first = signature[parameters[0]][1]
    start = 0
    term = 0
    if first and dice.random() < 0.7:
        name, parts = dice.choice(first)
        term = (name, *range(len(parts)))
        start = len(parts)
    else:
        start = 1
    return (term, *range(start, start + len(parameters) - 1))


def some_programs(many, seed, **more):
    """Pairs of dice and program."""
    dice = random.Random(seed)
    for number, signature in enumerate(some_signatures(many, seed)):
        if number % 5 == 0:
            signature = NUMBERS if number % 2 else TYPES
        yield dice, some_program(signature, dice, **more)


def some_use(program, dice, strangers=2):
    signature, generics, _ = program
    name, kinds, _ = dice.choice(generics)
    return (name, *plain.some_values(signature, kinds, strangers, dice))


def small_use(program, dice, strangers=2):
    """A use of values with few places."""
    signature, generics, _ = program
    name, kinds, _ = dice.choice(generics)
    return (name, *[dice.choice(plain.ordered_values(signature, kind, strangers, 5)[:8] or
                                plain.ordered_values(signature, kind, strangers, 7)[:8]) for kind in kinds])


def fitting_use(program, dice, strangers=2):
    """A use that a definition matches, if there is one."""
    signature, generics, definitions = program
    if not definitions or dice.random() < 0.2:
        return small_use(program, dice, strangers)
    name, pattern, _ = dice.choice(definitions)
    kinds = [kinds for own, kinds, _ in generics if own == name][0]
    standing = plain_cases.kinds_of_variables(signature, kinds, pattern)
    what = {}
    for variable, kind in standing.items():
        values = plain.ordered_values(signature, kind, strangers, 5)[:8] or plain.ordered_values(signature, kind, strangers, 7)[:8]
        what[variable] = dice.choice(values)
    return (name, *plain_cases.put(pattern, what))


ZERO = ("zero",)


def nxt(term):
    return ("next", term)


def number(many):
    value = ZERO
    for _ in range(many):
        value = nxt(value)
    return value


# Point 97.
SPECIAL = (NUMBERS, (("Pred", (0,), 0), ("Twice", (0,), 0)),
           (("Pred", (nxt(0),), 0), ("Twice", (0,), ("Pred", 0)), ("Twice", (ZERO,), ZERO)))
# Points 97 and 112.
EXAMPLE = (NUMBERS, (("Add", (0, 0), 0), ("Half", (0,), 0), ("Pick", (0, 0), 0), ("Spin", (0,), 0)), (
    ("Add", (ZERO, 0), 0), ("Add", (nxt(0), 1), nxt(("Add", 0, 1))),
    ("Half", (ZERO,), ZERO), ("Half", (nxt(nxt(0)),), nxt(("Half", 0))),
    ("Pick", (ZERO, 0), ("Half", ("Add", ZERO, nxt(ZERO)))), ("Pick", (nxt(0), 1), 1), ("Pick", (0, nxt(ZERO)), 0),
    ("Spin", (0,), ("Add", ("Half", 0), ("Spin", 0)))))

LISTS = (("closed", (("nil", ()), ("cons", (1, 0)))), ("open", (("aa", ()), ("box", (0,)))))
TREES = (("closed", (("leaf", ()), ("fork", (0, 0)))), ("closed", (("yes", ()), ("no", ()))))
LIVELY = (NUMBERS[:1], NUMBERS, LISTS, TREES, TYPES)


def lively_program(dice, flat=False):
    """A program whose uses mostly lead to other uses, on parts of their values, and often come to a value."""
    signature = dice.choice(LIVELY)
    kinds = range(len(signature))
    generics = tuple((name, tuple(dice.choice(kinds) for _ in range(dice.randint(1, 2))), dice.choice(kinds))
                     for name in dice.sample(NAMES, dice.randint(1, 3)))
    found = []
    for name, parameters, kind in generics:
        rows = [((own, *range(len(parts))), len(parts)) for own, parts in signature[parameters[0]][1]]
        if signature[parameters[0]][0] == "open" or dice.random() < 0.2:
            rows.append((0, 1))
        for first, start in rows:
            pattern = (first, *range(start, start + len(parameters) - 1))
            if not flat and dice.random() < 0.25:
                pattern = some_pattern(signature, parameters, dice, 3)
            known = plain_cases.kinds_of_variables(signature, parameters, pattern)
            firsts = tuple(plain_cases.variables_in(pattern[:1])) + (-1,) if flat else ()
            program = (signature, generics)
            body = some_body(program, kind, known, dice, dice.randint(1, 9), firsts)
            if not flat and dice.random() < 0.8:
                body = lessened(program, kind, known, pattern, dice) or body
            if body is not None and dice.random() < 0.95 and pattern not in [one for own, one, _ in found if own == name]:
                found.append((name, pattern, body))
    dice.shuffle(found)
    program = (signature, generics, tuple(found))
    assert is_program(program), program
    return program


def lessened(program, kind, known, pattern, dice):
    """A body with uses of parts of the first term, mostly, or None."""
    body = some_body(program, kind, known, dice, dice.randint(2, 9))
    if body is None or isinstance(pattern[0], int):
        return body
    parts = plain_cases.variables_in(pattern[:1])
    first_kinds = {name: kinds[0] for name, kinds, _ in program[1]}

    def lower(term):
        if isinstance(term, int):
            return term
        rest = [lower(part) for part in term[1:]]
        fitting = [v for v in parts if first_kinds.get(term[0]) == known[v]]
        if fitting and dice.random() < 0.9:
            rest[0] = dice.choice(fitting)
        return (term[0], *rest)
    return lower(body)


# Programs with modules.

def some_modules(program, dice, most=5):
    """Modules of the program."""
    while True:
        many = dice.randint(1, most)
        often = dice.choice((0.3, 0.6, 0.8))
        back = dice.choice((0.0, 0.03, 0.2))
        imports = tuple(tuple(far for far in range(many) if far != near and dice.random() < (often if far < near else back))
                        for near in range(many))
        modules = placed(program, imports, dice)
        if modules is not None:
            return modules


def placed(program, imports, dice):
    """Modules with these imports in which each thing is somewhere where it can be, or None."""
    signature, generics, definitions = program
    reach = [plain_units.reach(imports, (module,)) for module in range(len(imports))]
    of_kind = {kind: min(dice.randrange(len(imports)) for _ in range(2)) for kind, (how, _) in enumerate(signature)
               if how == "closed"}

    def fitting(wanted):
        return [module for module in range(len(imports)) if set(wanted) <= reach[module]]

    def kinds_wanted(kinds):
        return [of_kind[kind] for kind in kinds if kind in of_kind]
    of_name = {}
    for kind, (_, row) in enumerate(signature):
        for name, parts in row:
            right = fitting(kinds_wanted(parts))
            if not right or kind in of_kind and of_kind[kind] not in right:
                return None
            of_name[name] = of_kind[kind] if kind in of_kind else dice.choice(right)
    for name, kinds, kind in generics:
        right = fitting(kinds_wanted((*kinds, kind)))
        if not right:
            return None
        of_name[name] = min(dice.choice(right) for _ in range(2))
    found = []
    orderly = dice.random() < 0.6
    for number, (name, pattern, body) in enumerate(definitions):
        right = fitting([of_name[own] for own in {name} | plain_units.names((*pattern, body))])
        if not right:
            return None
        near = [module for module in right if any(module in reach[of_name[own]] for own in {name} | plain_units.names(pattern))]
        if orderly and is_chosen(program, number):
            right = near or right
        found.append(max(dice.choice(right) for _ in range(3)))
    constructors = tuple(tuple(of_name[name] for name, _ in row) for _, row in signature)
    return imports, constructors, tuple(of_name[name] for name, _, _ in generics), tuple(found)


def is_chosen(program, number):
    """Whether the pattern of the definition is ever chosen, as far as that can be told."""
    name = program[2][number][0]
    table = [row[1] for row in program[2] if row[0] == name]
    kinds = [kinds for own, kinds, _ in program[1] if own == name][0]
    return is_ever_chosen(program[0], kinds, tuple(table), table.index(program[2][number][1]))


def some_spread_programs(many, seed, **more):
    """Triples of dice, program and modules of it."""
    for at, (dice, program) in enumerate(some_programs(many, seed, **more)):
        if at % 3 == 0:
            program = lively_program(dice)
        elif at % 3 == 1:
            program = crowded_program(program, dice)
        yield dice, program, some_modules(program, dice)


def crowded_program(program, dice):
    """The program with some of its patterns split, or made smaller, so that some are never chosen."""
    signature, generics, definitions = program
    found = list(definitions)
    for name, pattern, body in definitions:
        kinds = [kinds for own, kinds, _ in generics if own == name][0]
        standing = plain_cases.kinds_of_variables(signature, kinds, pattern)
        closed = [variable for variable, kind in standing.items() if signature[kind][0] == "closed"]
        if closed and dice.random() < 0.8:
            for part in plain_cases.split(signature, kinds, pattern, dice.choice(closed)):
                known = plain_cases.kinds_of_variables(signature, kinds, plain_cases.numbered(part))
                kind = [kind for own, _, kind in generics if own == name][0]
                new = some_body((signature, generics if dice.random() < 0.3 else ()), kind, known, dice, 4)
                if new is not None:
                    found.append((name, plain_cases.numbered(part), new))
    kept = []
    for name, pattern, body in found:
        if plain_cases.size(pattern) <= 12 and (name, pattern) not in [row[:2] for row in kept]:
            if sum(row[0] == name for row in kept) < 8:
                kept.append((name, pattern, body))
    dice.shuffle(kept)
    crowded = (signature, generics, tuple(kept[:16]))
    assert is_program(crowded), crowded
    return crowded
