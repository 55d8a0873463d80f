"""Judges falls, and lines that lead to a ring, without a search."""

from closestfit.equations import are_indexes
from closestfit.forms import has_word, is_index, is_integer, is_natural, is_tuple_of
from closestfit.heads import by_heads, is_fact


def is_head(heads, value):
    if not is_tuple_of(value, 2, 2) or not isinstance(value[0], str) or not isinstance(value[1], str):
        return False
    return value in heads.place


def is_fact_form(heads, value):
    if not is_tuple_of(value, 4, 4) or not is_head(heads, value[:2]):
        return False
    _, _, generic, index = value
    parts = heads.parts_of(value[:2])
    if not isinstance(generic, str) or generic not in heads.first_kind or not is_index(index, len(parts)):
        return False
    return heads.first_kind[generic] == parts[index]


def is_edge_form(heads, value):
    return is_tuple_of(value, 4, 4) and is_head(heads, value[:2]) and is_head(heads, value[2:])


def read_facts(heads, value):
    """For each head the list of its facts, if these are facts, no two alike; otherwise None."""
    if not isinstance(value, tuple):
        return None
    seen = {}
    for fact in value:
        if not is_fact_form(heads, fact) or fact in seen:
            return None
        seen[fact] = True
    return by_heads(seen)


def read_fall(heads, value):
    """The integers of the heads of a fall, or None."""
    if not isinstance(value, tuple):
        return None
    found = {}
    for pair in value:
        if not is_tuple_of(pair, 2, 2) or not is_head(heads, pair[0]) or not is_integer(pair[1]):
            return None
        if pair[0] in found:
            return None
        found[pair[0]] = pair[1]
    return found


def shows_ends(heads, value, starts):
    """Whether the facts are closed, and the fall is one for them with all heads that starts(facts) has."""
    facts = read_facts(heads, value[1])
    fall = read_fall(heads, value[2])
    if facts is None or fall is None or not all([head in fall for head in starts(facts)]):
        return False
    return all([is_kept(facts, fall, claim) for head in heads.order for claim, _, _ in heads.claims_at(facts, head)])


def is_kept(facts, fall, claim):
    """Whether the facts have the claim, if it is a fact; otherwise whether the fall goes down by this edge."""
    if is_fact(claim):
        return claim in facts.get(claim[:2], [])
    if claim[:2] not in fall:
        return True
    return claim[2:] in fall and fall[claim[2:]] < fall[claim[:2]]


def read_lines(heads, lines):
    """The claims of the lines, or None."""
    if not isinstance(lines, tuple):
        return None
    claims = []
    for line in lines:
        if not is_tuple_of(line, 3, 3) or not goes_down(heads, claims, *line):
            return None
        claims.append(line[0])
    return claims


def goes_down(heads, claims, claim, path, numbers):
    if not is_fact_form(heads, claim) and not is_edge_form(heads, claim):
        return False
    if not isinstance(path, tuple) or not all([is_natural(index) for index in path]):
        return False
    starts = [(generic, first) for right, generic, first in heads.uses[claim[:2]] if right == path]
    if not starts:
        return False
    generic, first = starts[0]
    end = end_of_way(heads, claims, numbers, generic, first)
    return end is not None and (end[0], heads.last_item(end[1])) == claim[2:]


def end_of_way(heads, claims, numbers, generic, node):
    """The generic and the node to which the facts of these lines lead one after another, or None."""
    if not isinstance(numbers, tuple):
        return None
    for number in numbers:
        if not is_index(number, len(claims)) or not is_fact(claims[number]):
            return None
        fact = claims[number]
        if fact[:2] != (generic, heads.outermost(node)):
            return None
        generic, node = fact[2], heads.store.parts[node][fact[3]]
    return generic, node


def read_edges(claims, numbers):
    """The claims of these lines if each is of two heads, and begins with the head with which the one before ends."""
    if not isinstance(numbers, tuple) or not are_indexes(numbers, len(claims), 1, len(numbers)):
        return None
    edges = [claims[number] for number in numbers]
    if any([is_fact(edge) for edge in edges]):
        return None
    follow = all([near[2:] == far[:2] for near, far in zip(edges, edges[1:])])
    return edges if follow else None


def shows_ring(heads, value):
    """Whether the lines of ("endless", lines, ring) lead to a ring."""
    claims = read_lines(heads, value[1])
    edges = None if claims is None else read_edges(claims, value[2])
    return edges is not None and edges[-1][2:] == edges[0][:2]


def shows_endless(heads, value, generic, node):
    """Whether the lines of ("endless", lines, numbers, way) lead to a ring from the generic at the node."""
    claims = read_lines(heads, value[1])
    end = None if claims is None else end_of_way(heads, claims, value[2], generic, node)
    edges = None if end is None else read_edges(claims, value[3])
    if edges is None or edges[0][:2] != (end[0], heads.outermost(end[1])):
        return False
    return edges[-1][2:] in [edge[:2] for edge in edges]


def shows_program(heads, value):
    """Whether the value is evidence of either word about the program."""
    if has_word(value, "ends", 3):
        return shows_ends(heads, value, lambda facts: heads.order)
    return has_word(value, "endless", 3) and shows_ring(heads, value)


def shows_use(heads, value, generic, node):
    """Whether the value is evidence of either word about uses of the generic with this first value."""
    if has_word(value, "ends", 3):
        return shows_ends(heads, value, lambda facts: heads_below(heads, facts, generic, node))
    return has_word(value, "endless", 4) and shows_endless(heads, value, generic, node)


def heads_below(heads, facts, generic, node):
    """The heads of all to which the generic at a value goes down."""
    return [(at, heads.outermost(below)) for at, below in heads.downs(facts, generic, node)]
