"""Points 23 to 60, read plainly: slow, for small things only, and apart from the program.

Terms and values are nested tuples here, as the document has them, and all is
done by recursion along the places.
"""

from tests.plain import constructors, is_open, order_key, places


def is_variable(term):
    return isinstance(term, int)


def is_stranger(term):
    return not is_variable(term) and term[0] == "#"


def is_made(term):
    return not is_variable(term) and not is_stranger(term)


def variables_in(terms):
    """The variables of a tuple of terms, each once, from left to right."""
    found = []
    for term in terms:
        if is_variable(term):
            found.append(term)
        elif is_made(term):
            found += variables_in(term[1:])
    return list(dict.fromkeys(found))


def kinds_of_variables(signature, kinds, terms):
    found = {}
    for kind, term in zip(kinds, terms):
        if is_variable(term):
            found[term] = kind
        elif is_made(term):
            found.update(kinds_of_variables(signature, constructors(signature, kind)[term[0]], term[1:]))
    return found


def put(terms, what):
    """The terms with something put for their variables, all at once."""
    return tuple(what.get(term, term) if is_variable(term) else
                 term if is_stranger(term) else (term[0], *put(term[1:], what)) for term in terms)


def numbered(terms):
    return put(terms, {variable: i for i, variable in enumerate(variables_in(terms))})


def size(terms):
    return sum(places(term) for term in terms)


def at(terms, place):
    """What stands at the place, or None."""
    here = None
    parts = terms
    for index in place:
        if not 0 <= index < len(parts):
            return None
        here = parts[index]
        parts = here[1:] if is_made(here) else ()
    return here


def all_places(terms, before=()):
    """All places, in order."""
    found = []
    for i, term in enumerate(terms):
        found.append((*before, i))
        if is_made(term):
            found += all_places(term[1:], (*before, i))
    return found


def match(case, given):
    """What is put for each variable, or None."""
    found = {}
    for place in all_places(case):
        one, other = at(case, place), at(given, place)
        if other is None:
            return None
        if is_variable(one):
            if found.setdefault(one, other) != other:
                return None
        elif is_variable(other) or one[0] != other[0] or (is_stranger(one) and one != other):
            return None
    return found


def is_below(one, other):
    return match(other, one) is not None


def told_instance(case, given):
    """Point 25."""
    ordered = sorted(all_places(case))
    for place in ordered:
        one, other = at(case, place), at(given, place)
        if other is not None and is_made(one) and (is_variable(other) or one[0] != other[0]):
            return ("clash", place)
    for place in ordered:
        for other in ordered:
            if place < other and is_variable(at(case, place)) and at(case, place) == at(case, other):
                if at(given, place) != at(given, other):
                    return ("unlike", place, other)
    what = match(case, given)
    return ("is", tuple(what[variable] for variable in sorted(what)))


def has_true_or_false(value):
    if isinstance(value, (tuple, list)):
        return any(has_true_or_false(item) for item in value)
    return isinstance(value, bool)


def is_place(value):
    return isinstance(value, tuple) and len(value) > 0 and all(isinstance(index, int) for index in value)


def is_reason(case, given, value):
    if isinstance(value, tuple) and len(value) == 2 and value[0] == "clash" and is_place(value[1]):
        one, other = at(case, value[1]), at(given, value[1])
        return (one is not None and other is not None and is_made(one)
                and (not is_made(other) or one[0] != other[0]))
    if isinstance(value, tuple) and len(value) == 3 and value[0] == "unlike" and all(map(is_place, value[1:])):
        one, two = at(case, value[1]), at(case, value[2])
        left, right = at(given, value[1]), at(given, value[2])
        return (None not in (one, two, left, right) and value[1] < value[2] and is_variable(one) and one == two
                and left != right)
    return False


def accepts_instance(case, given, value):
    if has_true_or_false(value):
        return False
    if isinstance(value, tuple) and len(value) == 2 and value[0] == "is":
        what = match(case, given)
        return what is not None and value[1] == tuple(what[variable] for variable in sorted(what))
    return is_reason(case, given, value)


# Meets.

def raised(one, other):
    by = max([variable + 1 for variable in variables_in(one)], default=0)
    return put(other, {variable: variable + by for variable in variables_in(other)})


def walk(term, found):
    while is_variable(term) and term in found:
        term = found[term]
    return term


def stands_in(variable, term, found):
    term = walk(term, found)
    if is_variable(term):
        return term == variable
    return any(stands_in(variable, part, found) for part in term[1:])


def unified(left, right, found):
    """What the variables become so that both are the same, or None."""
    left, right = walk(left, found), walk(right, found)
    if left == right:
        return found
    if is_variable(left) or is_variable(right):
        variable, term = (left, right) if is_variable(left) else (right, left)
        return None if stands_in(variable, term, found) else {**found, variable: term}
    if left[0] != right[0]:
        return None
    for one, other in zip(left[1:], right[1:]):
        found = unified(one, other, found)
        if found is None:
            return None
    return found


def full(term, found, most):
    """The term with all that its variables become; None if it has more places than most."""
    term = walk(term, found)
    if most < 1:
        return None
    if is_variable(term):
        return term
    parts = []
    left = most - 1
    for part in term[1:]:
        whole = full(part, found, left)
        if whole is None:
            return None
        left -= places(whole)
        parts.append(whole)
    return (term[0], *parts)


def meet(one, other):
    """The numbered meet; None if there is none; "large" if it has more than 60 places."""
    found = {}
    for left, right in zip(one, raised(one, other)):
        found = unified(left, right, found)
        if found is None:
            return None
    whole = full(("all", *one), found, 61)
    return "large" if whole is None else numbered(whole[1:])


def row_sides(one, other, pairs, row):
    """The two sides of a row as they must be, or None."""
    if not isinstance(row, tuple) or len(row) != 3 or not isinstance(row[2], tuple) or not row[2]:
        return None
    left, right, reason = row
    numbers = reason[1:]
    if reason[0] == "given" and len(reason) == 2 and isinstance(numbers[0], int) and 0 <= numbers[0] < len(one):
        return one[numbers[0]], other[numbers[0]]
    if reason[0] == "part" and len(reason) == 3 and all(isinstance(number, int) for number in numbers):
        if not 0 <= numbers[0] < len(pairs):
            return None
        near, far = pairs[numbers[0]]
        if not is_made(near) or not is_made(far) or near[0] != far[0] or not 0 <= numbers[1] < len(near) - 1:
            return None
        return near[numbers[1] + 1], far[numbers[1] + 1]
    if reason[0] == "chain" and len(reason) == 2 and isinstance(numbers[0], tuple) and 1 <= len(numbers[0]) <= 200:
        here = left
        for index in numbers[0]:
            if not isinstance(index, int) or not 0 <= index < len(pairs) or here not in pairs[index]:
                return None
            near, far = pairs[index]
            here = far if here == near else near
        return left, here
    return None


def accepted_pairs(one, other, rows):
    if not isinstance(rows, tuple) or len(rows) > 1000:
        return None
    pairs = []
    for row in rows:
        sides = row_sides(one, other, pairs, row)
        if sides is None or (row[0], row[1]) != sides:
            return None
        pairs.append(sides)
    return pairs


def proper_parts(term):
    if not is_made(term):
        return []
    return [found for part in term[1:] for found in (part, *proper_parts(part))]


def are_indexes(value, many):
    return isinstance(value, tuple) and len(value) <= 1000 and all(
        isinstance(index, int) and 0 <= index < many for index in value)


def is_apart(one, other, rows, ring):
    pairs = accepted_pairs(one, other, rows)
    if pairs is None or not are_indexes(ring, len(pairs)):
        return False
    if ring == ():
        return len(pairs) > 0 and is_made(pairs[-1][0]) and is_made(pairs[-1][1]) and pairs[-1][0][0] != pairs[-1][1][0]
    return all(pairs[ring[(i + 1) % len(ring)]][0] in proper_parts(pairs[row][1]) for i, row in enumerate(ring))


def accepts_meet(one, other, value):
    if has_true_or_false(value) or not isinstance(value, tuple) or not value:
        return False
    other = raised(one, other)
    if value[0] == "apart" and len(value) == 3:
        return is_apart(one, other, value[1], value[2])
    if value[0] != "meet" or len(value) != 4:
        return False
    pairs = accepted_pairs(one, other, value[2])
    if pairs is None or not are_indexes(value[3], len(pairs)):
        return False
    for row in value[3]:
        left, right = pairs[row]
        if not is_variable(left):
            return False
        one, other = put(one, {left: right}), put(other, {left: right})
        if size(one) > 60 or size(other) > 60:
            return False
    return one == other and numbered(one) == value[1]


# Tables.

def matching(table, values):
    return tuple(number for number, pattern in enumerate(table) if match(pattern, values) is not None)


def answer(table, values):
    """Point 38."""
    found = matching(table, values)
    if not found:
        return "none"
    for number in found:
        if all(is_below(table[number], table[other]) for other in found):
            return number
    lowest = [number for number in found
              if not any(other != number and is_below(table[other], table[number]) for other in found)]
    return ("two", lowest[0], lowest[1])


def told_choice(table, values):
    """Point 40."""
    found = answer(table, values)
    rows = []
    for pattern in table:
        if match(pattern, values) is None:
            rows.append(("off", told_instance(pattern, values)))
        elif isinstance(found, int):
            rows.append(("above", told_instance(pattern, table[found])[1]))
        else:
            n = found[1] if not is_below(pattern, table[found[1]]) else found[2]
            rows.append(("beside", n, told_instance(table[n], pattern)))
    if found == "none":
        return ("none", tuple(rows))
    return ("one", found, tuple(rows)) if isinstance(found, int) else (*found, tuple(rows))


def accepts_choice(table, values, value):
    if has_true_or_false(value) or not isinstance(value, tuple) or not value:
        return False
    if (value[0], len(value)) not in (("none", 2), ("one", 3), ("two", 4)):
        return False
    numbers, rows = value[1:-1], value[-1]
    if not all(isinstance(number, int) and number in matching(table, values) for number in numbers):
        return False
    if value[0] == "two" and numbers[0] >= numbers[1]:
        return False
    if not isinstance(rows, tuple) or len(rows) != len(table):
        return False
    return all(is_item(table, values, value[0], numbers, pattern, item) for pattern, item in zip(table, rows))


def is_item(table, values, word, numbers, pattern, item):
    if not isinstance(item, tuple) or not item:
        return False
    if item[0] == "off" and len(item) == 2:
        return is_reason(pattern, values, item[1])
    if item[0] == "above" and len(item) == 2 and word == "one":
        return accepts_instance(pattern, table[numbers[0]], ("is", item[1]))
    if item[0] == "beside" and len(item) == 3 and word == "two":
        return isinstance(item[1], int) and item[1] in numbers and is_reason(table[item[1]], pattern, item[2])
    return False


# Covers.

def split(signature, kinds, case, variable):
    """Point 50."""
    kind = kinds_of_variables(signature, kinds, case)[variable]
    start = max(variables_in(case)) + 1
    return [put(case, {variable: (name, *range(start, start + len(parts)))}) for name, parts in signature[kind][1]]


def through(signature, kind, one, other):
    """The triples of kind and two parts at the same places, as long as both have the same constructor."""
    found = [(kind, one, other)]
    if is_made(one) and is_made(other) and one[0] == other[0]:
        for near, left, right in zip(constructors(signature, kind)[one[0]], one[1:], other[1:]):
            found += through(signature, near, left, right)
    return found


def constructor_kinds(signature, kind, term):
    """The kinds of the places of constructors in a term."""
    if is_variable(term):
        return []
    return [kind] + [found for near, part in zip(constructors(signature, kind)[term[0]], term[1:])
                     for found in constructor_kinds(signature, near, part)]


def product(numbers):
    total = 1
    for number in numbers:
        total *= number
    return total


def asks(signature, kinds, pattern, case, finite):
    """Points 52 and 53: None, or a triple of 0 or 1, the weight, and the variables asked for."""
    met = [row for kind, one, other in zip(kinds, pattern, case) for row in through(signature, kind, one, other)]
    if any(is_made(one) and is_made(other) and one[0] != other[0] for _, one, other in met):
        return None
    under = [(kind, one, other) for kind, one, other in met if is_made(one) and is_variable(other)]
    needed = [near for kind, one, _ in under for near in constructor_kinds(signature, kind, one)]
    if any(is_open(signature, kind) for kind in needed):
        return None
    unlike = []
    for variable in variables_in(pattern):
        rows = [(kind, other) for kind, one, other in met if is_variable(one) and one == variable]
        for kind, other in rows[1:]:
            unlike += [row for row in through(signature, kind, rows[0][1], other) if row[1] != row[2]
                       and (is_variable(row[1]) or is_variable(row[2]) or row[1][0] != row[2][0])]
    if any(is_made(one) and is_made(other) for _, one, other in unlike):
        return None
    if any(is_open(signature, kind) for kind, _, _ in unlike):
        return None
    if under:
        return 0, product(len(signature[kind][1]) for kind in needed), {other for _, _, other in under}
    if not unlike or not all(finite[kind] for kind, _, _ in unlike):
        return None
    asked = {term: kind for kind, one, other in unlike for term in (one, other) if is_variable(term)}
    return 1, product(len(signature[kind][1]) for kind in asked.values()), set(asked)


def told_split(signature, kinds, case, patterns, finite):
    found = [asks(signature, kinds, pattern, case, finite) for pattern in patterns]
    found = [row for row in found if row is not None]
    if not found:
        return None
    least = min(row[:2] for row in found)
    asked = [row[2] for row in found if row[:2] == least][0]
    return [variable for variable in variables_in(case) if variable in asked][0]


class Left(Exception):
    pass


class Large(Exception):
    pass


def told_cover(signature, kinds, case, table, numbers, finite):
    """("covered", tree), ("left", case) or "cases"."""
    leaves = []
    patterns = [table[number] for number in numbers]

    def tree(here):
        if len(leaves) == 300:
            raise Large()
        for number in numbers:
            if is_below(here, table[number]):
                leaves.append(number)
                return ("by", number)
        variable = told_split(signature, kinds, here, patterns, finite)
        if variable is None:
            raise Left(here)
        return ("split", variable, tuple([tree(part) for part in split(signature, kinds, here, variable)]))
    try:
        return ("covered", tree(case))
    except Left as left:
        return ("left", left.args[0])
    except Large:
        return "cases"


def fresh_of_size(signature, kind, many):
    """The fresh values with so many places, with all strangers as number 0."""
    if is_open(signature, kind):
        return [("#", 0)] if many == 1 else []
    found = []
    for name, parts in signature[kind][1]:
        if not parts and many == 1:
            found.append((name,))
        if len(parts) == 1 and many > 1:
            found += [(name, part) for part in fresh_of_size(signature, parts[0], many - 1)]
        if len(parts) == 2:
            for left in range(1, many - 1):
                for one in fresh_of_size(signature, parts[0], left):
                    found += [(name, one, two) for two in fresh_of_size(signature, parts[1], many - 1 - left)]
    return found


def counted(value, start):
    """The value with strangers from start on, and the next number."""
    if is_stranger(value):
        return ("#", start), start + 1
    parts = []
    for part in value[1:]:
        part, start = counted(part, start)
        parts.append(part)
    return (value[0], *parts), start


def fresh_values(signature, kind, start):
    """The fresh values one after another."""
    many = 1
    while True:
        found = [counted(value, start)[0] for value in fresh_of_size(signature, kind, many)]
        for value in sorted(found, key=lambda value: order_key(signature, kind, value)):
            yield value
        many += 1


def strangers_of(terms):
    found = [term[1] for term in terms if is_stranger(term)]
    for term in terms:
        if is_made(term):
            found += strangers_of(term[1:])
    return found


def told_values(signature, kinds, case, patterns, finite):
    """Point 56."""
    standing = kinds_of_variables(signature, kinds, case)
    order = variables_in(case)
    opened = [variable for variable in order if is_open(signature, standing[variable])]
    case = put(case, {variable: ("#", number) for number, variable in enumerate(opened)})
    ended = [variable for variable in order if finite[standing[variable]]]
    case = put(case, {variable: next(fresh_values(signature, standing[variable], 0)) for variable in ended})
    for variable in order:
        if variable in opened or variable in ended:
            continue
        start = max(strangers_of(case), default=-1) + 1
        for value in fresh_values(signature, standing[variable], start):
            new = put(case, {variable: value})
            if not any(is_below(new, pattern) for pattern in patterns):
                case = new
                break
    return case


def told_cover_evidence(signature, kinds, case, table, numbers, finite):
    """The told evidence, or the word of TooLarge."""
    told = told_cover(signature, kinds, case, table, numbers, finite)
    if told[0] != "left":
        return told
    values = told_values(signature, kinds, told[1], [table[number] for number in numbers], finite)
    return "value" if any(places(value) > 400 for value in values) else ("left", values)


def is_tree(signature, kinds, case, table, numbers, tree):
    """The number of leaves of a tree, None if it is none."""
    if not isinstance(tree, tuple) or not tree:
        return None
    if tree[0] == "by" and len(tree) == 2:
        fine = isinstance(tree[1], int) and tree[1] in numbers and is_below(case, table[tree[1]])
        return 1 if fine else None
    if tree[0] != "split" or len(tree) != 3 or not isinstance(tree[1], int) or not isinstance(tree[2], tuple):
        return None
    kind = kinds_of_variables(signature, kinds, case).get(tree[1])
    if kind is None or is_open(signature, kind) or len(tree[2]) != len(signature[kind][1]):
        return None
    found = [is_tree(signature, kinds, part, table, numbers, inner)
             for part, inner in zip(split(signature, kinds, case, tree[1]), tree[2])]
    return None if None in found else sum(found)


def accepts_tree(signature, kinds, case, table, numbers, tree):
    leaves = is_tree(signature, kinds, case, table, numbers, tree)
    return leaves is not None and leaves <= 300


def are_values(signature, kinds, values):
    from closestfit.kinds import is_value
    return isinstance(values, tuple) and len(values) == len(kinds) and all(
        is_value(signature, kind, value) for kind, value in zip(kinds, values))


def accepts_cover(signature, kinds, case, table, numbers, value):
    if has_true_or_false(value) or not isinstance(value, tuple) or len(value) != 2:
        return False
    if value[0] == "covered":
        return accepts_tree(signature, kinds, case, table, numbers, value[1])
    if value[0] != "left" or not are_values(signature, kinds, value[1]):
        return False
    return match(case, value[1]) is not None and not any(
        match(table[number], value[1]) is not None for number in numbers)


def accepts_fixed(signature, kinds, table, case, number, value):
    if has_true_or_false(value) or not isinstance(value, tuple):
        return False
    if len(value) == 2 and value[0] == "free":
        return (are_values(signature, kinds, value[1]) and match(case, value[1]) is not None
                and answer(table, value[1]) != number)
    if len(value) != 3 or value[0] != "fixed" or not accepts_tree(signature, kinds, case, table, (number,), value[1]):
        return False
    others = [s for s, pattern in enumerate(table) if not is_below(table[number], pattern)]
    rows = value[2]
    return (isinstance(rows, tuple) and len(rows) == len(others)
            and all(isinstance(row, tuple) and len(row) == 3 and row[0] == s for s, row in zip(others, rows))
            and all(is_apart(case, raised(case, table[s]), row[1], row[2]) for s, row in zip(others, rows)))
