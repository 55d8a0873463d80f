"""Makes cases, tables, values and changed evidence by dice that always fall the same way."""

from tests import plain, plain_cases


def some_term(signature, kind, dice, most, pool, new):
    """A term of the kind with about so many places; pool has the variables that may stand again."""
    fitting = [(name, parts) for name, parts in signature[kind][1] if len(parts) < most]
    if not fitting or dice.random() < 0.35:
        known = [variable for variable, near in pool.items() if near == kind]
        if known and dice.random() < 0.5:
            return dice.choice(known)
        variable = new(len(pool))
        pool[variable] = kind
        return variable
    name, parts = dice.choice(fitting)
    left = (most - 1) // max(1, len(parts))
    return (name, *[some_term(signature, part, dice, left, pool, new) for part in parts])


def some_case(signature, kinds, dice, most=5, new=lambda many: many):
    pool = {}
    return tuple(some_term(signature, kind, dice, most, pool, new) for kind in kinds)


def odd_case(signature, kinds, dice, most=5):
    """A case that is not numbered."""
    return some_case(signature, kinds, dice, most, lambda many: (many * 7 + 3) % 11 + 11 * (many // 11))


def some_pattern(signature, kinds, dice, most=4):
    while True:
        case = plain_cases.numbered(some_case(signature, kinds, dice, most))
        if plain_cases.size(case) <= 16:
            return case


def some_table(signature, kinds, dice, many, most=4):
    found = []
    for _ in range(many):
        pattern = some_pattern(signature, kinds, dice, most)
        if pattern not in found:
            found.append(pattern)
    return tuple(found)


def some_kinds(signature, dice, most=3):
    return tuple(dice.randrange(len(signature)) for _ in range(dice.randint(1, most)))


def values_of(signature, kinds, case, dice, strangers=3):
    """Values that the case matches."""
    standing = plain_cases.kinds_of_variables(signature, kinds, case)
    return plain_cases.put(case, {variable: plain.some_values(signature, (kind,), strangers, dice)[0]
                                  for variable, kind in standing.items()})


def changed(value, dice):
    """The value with something changed somewhere in it."""
    if isinstance(value, tuple) and value and dice.random() < 0.85:
        at = dice.randrange(len(value))
        return (*value[:at], changed(value[at], dice), *value[at + 1:])
    if isinstance(value, tuple):
        return changed_tuple(value, dice)
    if isinstance(value, int):
        return dice.choice((value + 1, value - 1, value == 1, None, (value,), 0, str(value), value + 2))
    if isinstance(value, str):
        words = ("is", "clash", "unlike", "by", "split", "covered", "left", "off", "above", "beside", "one", "two", "none",
                 "given", "part", "chain", "apart", "meet", "fixed", "free", "#")
        return dice.choice((*words, None, (value,), value + "a"))
    return 0


def changed_tuple(value, dice):
    choice = dice.randrange(6)
    if choice == 0:
        return list(value)
    if choice == 1:
        return value[:-1]
    if choice == 2:
        return (*value, *value[:1])
    if choice == 3:
        return value[::-1]
    if choice == 4:
        return value[1:]
    return None


def much_changed(value, dice, many):
    """Some values, each with one or two things changed."""
    found = []
    for _ in range(many):
        new = changed(value, dice)
        found.append(changed(new, dice) if dice.random() < 0.2 else new)
    return found


def covering_table(signature, kinds, dice, splits):
    """Patterns that come from splits of one case, so that they often cover it, and some with equal variables."""
    parts = [tuple(range(len(kinds)))]
    for _ in range(splits):
        here = dice.choice(parts)
        closed = [variable for variable, kind in plain_cases.kinds_of_variables(signature, kinds, here).items()
                  if not plain.is_open(signature, kind)]
        if closed:
            parts.remove(here)
            parts += plain_cases.split(signature, kinds, here, dice.choice(closed))
    parts = [with_equal_variables(signature, kinds, part, dice) if dice.random() < 0.4 else part for part in parts]
    found = []
    for part in parts:
        pattern = plain_cases.numbered(part)
        if plain_cases.size(pattern) <= 16 and pattern not in found and dice.random() < 0.93:
            found.append(pattern)
    dice.shuffle(found)
    return tuple(found[:12])


def with_equal_variables(signature, kinds, case, dice):
    standing = plain_cases.kinds_of_variables(signature, kinds, case)
    variables = list(standing)
    pairs = [(one, other) for one in variables for other in variables
             if one != other and standing[one] == standing[other]]
    if not pairs:
        return case
    one, other = dice.choice(pairs)
    return plain_cases.put(case, {one: other})


def tangled_case(signature, kinds, dice, most, variables):
    """A case with few variables that stand at many places."""
    def term(kind, left):
        fitting = [(name, parts) for name, parts in signature[kind][1] if len(parts) < left]
        if not fitting or dice.random() < 0.3:
            return dice.randrange(variables) * len(signature) + kind
        name, parts = dice.choice(fitting)
        return (name, *[term(part, (left - 1) // max(1, len(parts))) for part in parts])
    return tuple(term(kind, most) for kind in kinds)


def equal_table(signature, kinds, dice, many):
    """Patterns without constructors that want some of their terms equal."""
    found = []
    for _ in range(many):
        terms = list(range(len(kinds)))
        for _ in range(dice.randint(1, 2)):
            one, other = dice.randrange(len(kinds)), dice.randrange(len(kinds))
            if kinds[one] == kinds[other]:
                terms = [terms[one] if term == terms[other] else term for term in terms]
        pattern = plain_cases.numbered(tuple(terms))
        if pattern not in found and pattern != tuple(range(len(kinds))):
            found.append(pattern)
    return tuple(found)


def crossing_table(signature, kinds, dice, many):
    """Patterns that ask for something at few places, so that most of them meet each other."""
    found = []
    for _ in range(many):
        pool = {}
        terms = []
        for kind in kinds:
            if dice.random() < 0.4:
                terms.append(some_term(signature, kind, dice, 3, pool, lambda number: number))
                continue
            known = [variable for variable, near in pool.items() if near == kind]
            if not known or dice.random() < 0.8:
                known = [len(pool)]
            pool[known[0]] = kind
            terms.append(known[0])
        pattern = plain_cases.numbered(tuple(terms))
        if plain_cases.size(pattern) <= 12 and pattern not in found:
            found.append(pattern)
    return tuple(found)
