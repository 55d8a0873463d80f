"""Judges rows of equations, and what they show about two cases, without a search.

Of two cases `one` and `other` are nodes of a store; the variables of the
other one are raised already.
"""

from closestfit.forms import has_word, is_index, is_tuple_of

MOST_ROWS = 1000
MOST_IN_CHAIN = 200
MOST_IN_MEET = 60


def are_indexes(value, many, least, most):
    """Whether the value is a tuple of indexes of so many things, of a length between the two."""
    return is_tuple_of(value, least, most) and all(is_index(index, many) for index in value)


def read_rows(store, one, other, rows):
    """The pairs of the two sides of the rows, or None if they are no rows."""
    if not is_tuple_of(rows, 0, MOST_ROWS):
        return None
    pairs = []
    for row in rows:
        pair = read_row(store, one, other, pairs, row)
        if pair is None:
            return None
        pairs.append(pair)
    return pairs


def read_row(store, one, other, pairs, row):
    """The two sides of the row behind earlier ones, or None."""
    if not is_tuple_of(row, 3, 3):
        return None
    left, right, reason = row
    pair = None
    if has_word(reason, "given", 2) and is_index(reason[1], len(one)):
        pair = (one[reason[1]], other[reason[1]])
    if has_word(reason, "part", 3) and is_index(reason[1], len(pairs)):
        pair = pair_of_parts(store, pairs[reason[1]], reason[2])
    if has_word(reason, "chain", 2) and are_indexes(reason[1], len(pairs), 1, MOST_IN_CHAIN):
        pair = ends_of_chain(store, [pairs[index] for index in reason[1]], left)
    if pair is None or not store.same(pair[0], left) or not store.same(pair[1], right):
        return None
    return pair


def pair_of_parts(store, pair, k):
    left, right = pair
    if not store.is_made(left) or store.heads[left] != store.heads[right]:
        return None
    if not is_index(k, len(store.parts[left])):
        return None
    return store.parts[left][k], store.parts[right][k]


def ends_of_chain(store, steps, left):
    """The nodes with which the chain of rows begins and ends, or None."""
    starts = [side for side in steps[0] if store.same(side, left)]
    if not starts:
        return None
    at = starts[0]
    for near, far in steps:
        if at != near and at != far:
            return None
        at = far if at == near else near
    return starts[0], at


def differ_outermost(store, pair):
    left, right = pair
    return store.is_made(left) and store.is_made(right) and store.heads[left] != store.heads[right]


def is_ring(store, pairs, ring):
    """Whether the right side of each row has the left side of the next one as a proper part."""
    following = (*ring[1:], ring[0])
    return all([has_proper_part(store, pairs[row][1], pairs[far][0]) for row, far in zip(ring, following)])


def has_proper_part(store, node, part):
    return node != part and part in store.inside((node,))


def shows_apart(store, one, other, rows, ring):
    """Whether the rows and the ring are evidence that the two cases do not meet."""
    pairs = read_rows(store, one, other, rows)
    if pairs is None or not are_indexes(ring, len(pairs), 0, MOST_ROWS):
        return False
    if ring:
        return is_ring(store, pairs, ring)
    return bool(pairs) and differ_outermost(store, pairs[-1])


def shows_meet(store, kinds, one, other, value):
    """Whether the value is evidence of the meet of the two cases."""
    pairs = read_rows(store, one, other, value[2])
    if pairs is None or not are_indexes(value[3], len(pairs), 0, MOST_ROWS):
        return False
    for row in value[3]:
        left, right = pairs[row]
        if not store.is_variable(left):
            return False
        put = {store.heads[left]: right}
        one, other = store.instance(one, put), store.instance(other, put)
        # They never get smaller again.
        if store.places(one) > MOST_IN_MEET or store.places(other) > MOST_IN_MEET:
            return False
    return one == other and store.are_same(store.numbered(kinds, one), value[1])


def shows_meet_or_apart(store, kinds, one, other, value):
    """Whether the value is evidence of either word about the two cases."""
    if has_word(value, "apart", 3):
        return shows_apart(store, one, other, value[1], value[2])
    if has_word(value, "meet", 4):
        return shows_meet(store, kinds, one, other, value)
    return False
