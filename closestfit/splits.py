"""Splits of a case at a variable, and the split that is told.

A case and the patterns are nodes of a store.
"""


def parts_of_split(store, case, variable, kind):
    """The case with each constructor of the kind put for the variable, in order."""
    shapes = store.shapes
    start = store.greatest_in(case) + 1
    found = []
    for name, kinds in shapes.constructors[kind]:
        parts = tuple([store.put(start + i, ()) for i in range(len(kinds))])
        found.append(store.instance(case, {variable: store.put(name, parts)}))
    return found


def told_split(store, kinds, case, patterns):
    """The variable of the told split of a case that is below none of the patterns; None if the case is left."""
    best = None
    for pattern in patterns:
        found = asks_for(store, kinds, pattern, case)
        if found is not None and (best is None or found[:2] < best[:2]):
            best = found
    if best is None:
        return None
    return [variable for variable in store.variables(kinds, case) if variable in best[2]][0]


def asks_for(store, kinds, pattern, case):
    """What the pattern asks for, as a triple, or None if it is out or asks for nothing.

    The triple has 0 if the pattern asks where it has constructors, 1 if it
    asks where parts differ that are wanted equal; the weight; the variables.
    """
    met = go_through(store, kinds, pattern, case)
    if met is None:
        return None
    asked, weight, wanted = met
    unlike = differing(store, wanted)
    if unlike is None:
        return None
    if asked:
        return 0, weight, asked
    shapes = store.shapes
    if not unlike or not all([shapes.finite[kind] for kind in unlike.values()]):
        return None
    weight = 1
    for kind in unlike.values():
        weight *= shapes.width(kind)
    return 1, weight, unlike


def go_through(store, kinds, pattern, case):
    """What is met where both are gone through together; None if the pattern is out by its constructors.

    That is the variables of the case where the pattern has a constructor,
    the weight, and the triples of kind and two parts that are wanted equal.
    """
    asked = {}
    weight = 1
    wanted = []
    firsts = {}
    waiting = list(zip(kinds, pattern, case))[::-1]
    while waiting:
        kind, one, other = waiting.pop()
        head = store.heads[one]
        there = store.heads[other]
        if isinstance(head, int):
            if head in firsts:
                wanted.append((kind, firsts[head], other))
            firsts.setdefault(head, other)
        elif isinstance(there, int):
            below = weight_of(store, one)
            if below is None:
                return None
            weight *= below
            asked[there] = kind
        elif head != there:
            return None
        else:
            waiting += list(zip(store.shapes.parts[head], store.parts[one], store.parts[other]))[::-1]
    return asked, weight, wanted


def weight_of(store, part):
    """The product over the constructors in a part of a pattern; None if one of them is of an open kind."""
    shapes = store.shapes
    weight = 1
    waiting = [part]
    while waiting:
        node = waiting.pop()
        if store.is_made(node):
            kind = shapes.kind[store.heads[node]]
            if shapes.is_open[kind]:
                return None
            weight *= shapes.width(kind)
            waiting += store.parts[node]
    return weight


def differing(store, wanted):
    """The variables that stand where parts differ that are wanted equal, with their kinds.

    None if the pattern is out: if they differ where both have constructors,
    or at a place of an open kind.
    """
    shapes = store.shapes
    found = {}
    seen = {}
    waiting = list(wanted)
    while waiting:
        kind, one, other = waiting.pop()
        if one == other or (one, other) in seen:
            continue
        seen[(one, other)] = True
        if store.is_made(one) and store.is_made(other):
            head = store.heads[one]
            if head != store.heads[other]:
                return None
            waiting += list(zip(shapes.parts[head], store.parts[one], store.parts[other]))
            continue
        if shapes.is_open[kind]:
            return None
        for node in (one, other):
            if store.is_variable(node):
                found[store.heads[node]] = kind
    return found
