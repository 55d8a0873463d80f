"""Points 113 to 125, read plainly: slow, for small things only, and apart from the program.

At a head the variables 0 and 1 stand for the parts of its constructor, and
("#", 0) for the stranger.
"""

from tests.plain import constructors, is_open, places
from tests.plain_cases import has_true_or_false, is_variable, match, put
from tests.plain_programs import body_at, kinds_of, listed, names_of, numbers_of


def first_kind(program, name):
    return kinds_of(program, name)[0]


def heads(program):
    found = []
    for name in names_of(program):
        kind = first_kind(program, name)
        found += [(name, letter) for letter, _ in program[0][kind][1]]
        found += [(name, "#")] if is_open(program[0], kind) else []
    return found


def parts_of(program, head):
    return constructors(program[0], first_kind(program, head[0])).get(head[1], ())


def definition_at(program, head):
    """The number of the definition whose body is at the head, or None."""
    lone = None
    for number in numbers_of(program, head[0]):
        first = program[2][number][1][0]
        if is_variable(first):
            lone = number
        elif first[0] == head[1]:
            return number
    return lone


def uses_at(program, head):
    """Triples of path, generic and first argument as it is read at the head."""
    number = definition_at(program, head)
    if number is None:
        return []
    _, pattern, body = program[2][number]
    what = {}
    if is_variable(pattern[0]):
        what = {0: ("#", 0) if head[1] == "#" else (head[1], *range(len(parts_of(program, head))))}
    found = []
    for path in listed(program, body):
        use = body_at(body, path)
        found.append((path, use[0], put((use[1],), what)[0]))
    return found


def following(program, name, value):
    """Point 115."""
    number = definition_at(program, (name, value[0]))
    if number is None:
        return ()
    _, pattern, body = program[2][number]
    what = match(pattern[:1], (value,))
    uses = [body_at(body, path) for path in listed(program, body)]
    return tuple((use[0], put((use[1],), what)[0]) for use in uses)


def goes_down(facts, generic, term):
    """All pairs of a generic and a part of the term."""
    found = [(generic, term)]
    for at, below in found:
        if is_variable(below):
            continue
        for f, c, g, i in facts:
            if (f, c) == (at, below[0]) and (g, below[i + 1]) not in found:
                found.append((g, below[i + 1]))
    return found


def claims_by(program, facts):
    """All that goes down by the facts at some head: facts (f, c, h, i) and edges (f, c, h, d)."""
    found = set()
    for head in heads(program):
        for _, generic, first in uses_at(program, head):
            for at, below in goes_down(facts, generic, first):
                found.add((*head, at, below if is_variable(below) else below[0]))
    return found


def is_fact(claim):
    return isinstance(claim[3], int)


def facts_that_hold(program):
    facts = set()
    while True:
        more = {claim for claim in claims_by(program, facts) if is_fact(claim)}
        if more <= facts:
            return facts
        facts |= more


def edges(program):
    facts = facts_that_hold(program)
    return {claim for claim in claims_by(program, facts) if not is_fact(claim)}


def ordered_facts(program):
    order, names = heads(program), names_of(program)
    return tuple(sorted(facts_that_hold(program), key=lambda fact: (order.index(fact[:2]), names.index(fact[2]), fact[3])))


def ordered_edges(program):
    order = heads(program)
    return tuple(sorted(edges(program), key=lambda edge: (order.index(edge[:2]), order.index(edge[2:]))))


def longest(program, head, passed=()):
    """The greatest number of edges in a row that begins with the head, None if one comes to a ring."""
    if head in passed:
        return None
    found = [longest(program, edge[2:], (*passed, head)) for edge in edges(program) if edge[:2] == head]
    return None if None in found else max([level + 1 for level in found], default=0)


def told_program(program):
    """The told evidence, or None if there is a ring."""
    levels = [(head, longest(program, head)) for head in heads(program)]
    if None in [level for _, level in levels]:
        return None
    return ("ends", ordered_facts(program), tuple(levels))


def head_of(pair):
    return pair[0], pair[1][0]


def told_use(program, use):
    """The told evidence, or None if the use has an endless row."""
    facts = facts_that_hold(program)
    needed = {head_of(pair) for pair in goes_down(facts, use[0], use[1])}
    while True:
        more = needed | {edge[2:] for edge in edges(program) if edge[:2] in needed}
        if more == needed:
            break
        needed = more
    levels = [(head, longest(program, head)) for head in heads(program) if head in needed]
    if None in [level for _, level in levels]:
        return None
    return ("ends", ordered_facts(program), tuple(levels))


def is_fact_form(program, claim):
    if not isinstance(claim, tuple) or len(claim) != 4 or claim[:2] not in heads(program) or claim[2] not in names_of(program):
        return False
    parts = parts_of(program, claim[:2])
    return isinstance(claim[3], int) and 0 <= claim[3] < len(parts) and parts[claim[3]] == first_kind(program, claim[2])


def is_edge_form(program, claim):
    return isinstance(claim, tuple) and len(claim) == 4 and claim[:2] in heads(program) and claim[2:] in heads(program)


def accepts_ends(program, facts, fall, needed):
    """Whether this is a closed set and a fall for it with the heads that needed(facts) has."""
    if not isinstance(facts, tuple) or not isinstance(fall, tuple):
        return False
    if not all(is_fact_form(program, fact) for fact in facts) or len(set(facts)) < len(facts):
        return False
    if not all(isinstance(row, tuple) and len(row) == 2 and row[0] in heads(program) and isinstance(row[1], int) for row in fall):
        return False
    levels = dict(fall)
    if len(levels) < len(fall) or not set(needed(facts)) <= set(levels):
        return False
    for claim in claims_by(program, facts):
        if is_fact(claim) and claim not in facts:
            return False
        if not is_fact(claim) and claim[:2] in levels:
            if claim[2:] not in levels or levels[claim[2:]] >= levels[claim[:2]]:
                return False
    return True


def end_of_way(program, claims, numbers, generic, term):
    if not isinstance(numbers, tuple):
        return None
    for number in numbers:
        if not isinstance(number, int) or not 0 <= number < len(claims) or not is_fact(claims[number]) or is_variable(term):
            return None
        f, c, g, i = claims[number]
        if (f, c) != (generic, term[0]):
            return None
        generic, term = g, term[i + 1]
    return generic, term


def claims_of(program, lines):
    if not isinstance(lines, tuple):
        return None
    claims = []
    for line in lines:
        if not isinstance(line, tuple) or len(line) != 3:
            return None
        claim, path, numbers = line
        if not is_fact_form(program, claim) and not is_edge_form(program, claim):
            return None
        starts = [(generic, first) for own, generic, first in uses_at(program, claim[:2]) if own == path]
        end = end_of_way(program, claims, numbers, *starts[0]) if starts else None
        if end is None or end[0] != claim[2] or (end[1] if is_variable(end[1]) else end[1][0]) != claim[3]:
            return None
        claims.append(claim)
    return claims


def row_of_edges(claims, numbers):
    """The edges of these lines if they make a row, otherwise None."""
    if not isinstance(numbers, tuple) or not numbers or not all(isinstance(n, int) and 0 <= n < len(claims) for n in numbers):
        return None
    found = [claims[number] for number in numbers]
    if any(is_fact(claim) for claim in found) or any(near[2:] != far[:2] for near, far in zip(found, found[1:])):
        return None
    return found


def accepts_program(program, value):
    if has_true_or_false(value) or not isinstance(value, tuple) or len(value) != 3:
        return False
    if value[0] == "ends":
        return accepts_ends(program, value[1], value[2], lambda facts: heads(program))
    claims = claims_of(program, value[1]) if value[0] == "endless" else None
    found = None if claims is None else row_of_edges(claims, value[2])
    return found is not None and found[0][:2] == found[-1][2:]


def accepts_use(program, use, value):
    if has_true_or_false(value) or not isinstance(value, tuple) or not value:
        return False
    if value[0] == "ends" and len(value) == 3:
        return accepts_ends(program, value[1], value[2],
                            lambda facts: [head_of(pair) for pair in goes_down(facts, use[0], use[1])])
    if value[0] != "endless" or len(value) != 4:
        return False
    claims = claims_of(program, value[1])
    end = None if claims is None else end_of_way(program, claims, value[2], use[0], use[1])
    found = None if end is None else row_of_edges(claims, value[3])
    return found is not None and found[0][:2] == head_of(end) and found[-1][2:] in [edge[:2] for edge in found]


def always_value(program):
    return all(definition_at(program, head) is not None for head in heads(program)) and told_program(program) is not None


def rows_end(program, name, value, most):
    """True if all rows of pairs come to an end, False if one comes back to its own pair, None if there is too much of them."""
    found = {}
    waiting = [((name, value), None)]
    while waiting:
        pair, left = waiting.pop()
        if left is not None:
            if left:
                waiting += [(pair, left[1:]), (left[0], None)] if left[0] not in found else [(pair, left[1:])]
                if found.get(left[0]) == "open":
                    return False
            else:
                found[pair] = "done"
        elif pair not in found:
            if len(found) > most or places(pair[1]) > 300:
                return None
            found[pair] = "open"
            waiting.append((pair, following(program, *pair)))
    return True
