"""The points of the document, read plainly: slow, for small things only, and apart from the program."""


def constructors(signature, kind):
    return dict(signature[kind][1])


def is_open(signature, kind):
    return signature[kind][0] == "open"


def places(value):
    many, waiting = 0, [value]
    while waiting:
        here = waiting.pop()
        many += 1
        if not isinstance(here, int) and here[0] != "#":
            waiting.extend(here[1:])
    return many


def order_key(signature, kind, value):
    """Point 15."""
    if value[0] == "#":
        return (1, (len(signature[kind][1]) + value[1],), ())
    names = [name for name, _ in signature[kind][1]]
    parts = constructors(signature, kind)[value[0]]
    keys = tuple(order_key(signature, part, inner) for part, inner in zip(parts, value[1:]))
    return (places(value), (names.index(value[0]),), keys)


def values_of_size(signature, kind, strangers, size):
    """All values below so many strangers with so many places, in no order."""
    found = []
    for name, parts in signature[kind][1]:
        if not parts and size == 1:
            found.append((name,))
        if len(parts) == 1:
            found += [(name, part) for part in values_of_size(signature, parts[0], strangers, size - 1)] if size else []
        if len(parts) == 2:
            for left in range(1, size - 1):
                for one in values_of_size(signature, parts[0], strangers, left):
                    found += [(name, one, two)
                              for two in values_of_size(signature, parts[1], strangers, size - 1 - left)]
    if size == 1 and is_open(signature, kind):
        found += [("#", number) for number in range(strangers)]
    return found


def ordered_values(signature, kind, strangers, most):
    found = [value for size in range(1, most + 1) for value in values_of_size(signature, kind, strangers, size)]
    return sorted(found, key=lambda value: order_key(signature, kind, value))


def leads_to(signature, kind):
    """Point 13."""
    found, new = set(), {kind}
    while new:
        new = {part for near in new for _, parts in signature[near][1] for part in parts} - found
        found |= new
    return found


def finite(signature, kind):
    if is_open(signature, kind):
        return False
    led = leads_to(signature, kind)
    return not any(is_open(signature, far) or far in leads_to(signature, far) for far in led)


def ways(signature, kind, most):
    """All endless ways of point 14 with at most so many steps, the first one first."""
    found = []
    for name, parts in signature[kind][1] if most else ():
        for place, part in enumerate(parts):
            for more in all_steps(signature, part, most - 1):
                found.append(((name, place), *more))
    right = [way for way in [(), *found] if ends_well(signature, kind, way)]

    def key(way):
        names = {name: i for _, row in signature for i, (name, _) in enumerate(row)}
        return len(way), [(names[name], place) for name, place in way]
    return sorted(right, key=key)


def all_steps(signature, kind, most):
    found = [()]
    for name, parts in signature[kind][1] if most else ():
        for place, part in enumerate(parts):
            found += [((name, place), *more) for more in all_steps(signature, part, most - 1)]
    return found


def ends_well(signature, kind, way):
    where = {name: at for at, (_, row) in enumerate(signature) for name, _ in row}
    last = kind
    for name, place in way:
        last = constructors(signature, where[name])[name][place]
    return is_open(signature, last) or last in [where[name] for name, _ in way]


def heights(signature, kind):
    """The told heights of a finite kind."""
    asked = leads_to(signature, kind) | {kind}

    def height(near):
        return max([height(part) + 1 for _, parts in signature[near][1] for part in parts], default=0)
    return tuple(height(near) if near in asked else None for near in range(len(signature)))


def parts_of(signature, kind, value):
    """The pairs of kind and part of a value."""
    if value[0] == "#":
        return []
    return list(zip(constructors(signature, kind)[value[0]], value[1:]))


def strangers_in(signature, kind, value):
    """The pairs (kind, number) of the strangers, from left to right."""
    if value[0] == "#":
        return [(kind, value[1])]
    return [found for near, part in parts_of(signature, kind, value) for found in strangers_in(signature, near, part)]


def all_strangers(signature, kinds, values):
    return [found for kind, value in zip(kinds, values) for found in strangers_in(signature, kind, value)]


def changed(signature, kind, value, change):
    """The value with each stranger changed: change takes the kind and the number."""
    if value[0] == "#":
        return change(kind, value[1])
    return (value[0], *[changed(signature, near, part, change) for near, part in parts_of(signature, kind, value)])


def renumbered(signature, kinds, values):
    """Point 18."""
    numbers = {}
    for kind, number in all_strangers(signature, kinds, values):
        row = numbers.setdefault(kind, {})
        row.setdefault(number, len(row))
    return tuple(changed(signature, kind, value, lambda near, number: ("#", numbers[near][number]))
                 for kind, value in zip(kinds, values))


def seen_without(signature, kinds, values, names):
    """Point 20."""
    found = {}
    free = {}
    for kind, number in all_strangers(signature, kinds, values):
        free[kind] = max(free.get(kind, 0), number + 1)

    def seen(kind, value):
        if value[0] in names:
            if value not in found:
                found[value] = ("#", free.setdefault(kind, 0))
                free[kind] += 1
            return found[value]
        if value[0] == "#":
            return value
        return (value[0], *[seen(near, part) for near, part in parts_of(signature, kind, value)])
    return tuple(seen(kind, value) for kind, value in zip(kinds, values))


def some_values(signature, kinds, strangers, dice):
    """Some values of the kinds, small and not so small ones."""
    from closestfit.counts import value_at
    found = []
    for kind in kinds:
        most = 400
        while True:
            try:
                found.append(value_at(signature, kind, strangers, dice.randrange(most)))
                break
            except ValueError:
                most = most // 2
    return tuple(found)
