"""The joint case and the joint table of a use in a body, and whether the use is sound.

What is left is told as in clearing.py: a case and the patterns that do not
cover it.
"""

from closestfit.checks import read_values
from closestfit.choosing import answer, is_choice
from closestfit.clearing import are_rows_of_trees, asked, below_both, pairs_of_numbers
from closestfit.equations import MOST_IN_MEET
from closestfit.fixing import not_above
from closestfit.forms import has_word
from closestfit.leavings import told_values
from closestfit.matching import match
from closestfit.meeting import meet_nodes, small_meet
from closestfit.trees import is_tree


class Joint:
    """What the use with this node says together with the pattern of its definition."""

    def __init__(self, program, number, use):
        self.program = program
        self.store = program.store
        self.definition = program.definitions[number]
        self.here = program.tables[self.definition.name]
        self.there = program.tables[self.store.heads[use]]
        self.own_kinds = program.parameters[self.definition.name]
        self.use_kinds = program.parameters[self.store.heads[use]]
        self.kinds = (*self.own_kinds, *self.use_kinds)
        self.own = program.numbers[self.definition.name].index(number)
        # The new variables are numbered on from here.
        self.start = self.store.greatest_in(self.definition.pattern) + 1
        self.case = (*self.definition.pattern, *opened_arguments(program, use, self.start))
        self.takers = [self.taker(self.here[s]) for s in not_above(self.store, self.here, self.own)]
        self.fits = [self.fit(pattern) for pattern in self.there]
        self.table = [*self.takers, *self.fits]

    def variables(self, start, many):
        return tuple([self.store.put(start + i, ()) for i in range(many)])

    def taker(self, pattern):
        return (*pattern, *self.variables(self.store.greatest_in(pattern) + 1, len(self.use_kinds)))

    def fit(self, pattern):
        many = len(self.own_kinds)
        standing = self.store.variables(self.use_kinds, pattern)
        put = {variable: self.store.put(variable + many, ()) for variable in standing}
        return (*self.variables(0, many), *self.store.instance(pattern, put))

    def all_numbers(self):
        return tuple(range(len(self.table)))

    def numbers_for(self, one, other):
        """The numbers of the takers, and of the fits of the patterns that are below both."""
        many = len(self.takers)
        below = below_both(self.store, self.there, one, other)
        return (*list(range(many)), *[many + number for number in below])

    def new_kinds(self):
        """The kinds of the new variables, in their order."""
        found = self.store.variables(self.kinds, self.case)
        return [found[variable] for variable in sorted(found) if variable >= self.start]


def opened_arguments(program, use, start):
    """The arguments of the use with a new variable for each inner use, numbered from start on."""
    store = program.store
    heads = []
    following = start
    waiting = list(store.parts[use])[::-1]
    while waiting:
        node = waiting.pop()
        if program.is_use(node):
            heads.append((None, following))
            following += 1
        else:
            heads.append((None, store.heads[node]))
            waiting += store.parts[node][::-1]
    return store.load(heads)


def found_sound(joint):
    """("sound", tree, rows), or ("stuck", what is left) of the first case that is not covered."""
    store, kinds = joint.store, joint.kinds
    top = asked(store, kinds, joint.case, joint.table, joint.all_numbers(), ("sound", "stuck"))
    if top[0] == "stuck":
        return top
    rows = []
    for one, other in pairs_of_numbers(joint.there):
        meet = small_meet(store, kinds, joint.fits[one], joint.fits[other])
        if meet is not None:
            meet = small_meet(store, kinds, meet, joint.case)
        if meet is None:
            continue
        found = asked(store, kinds, meet, joint.table, joint.numbers_for(one, other), ("sound", "stuck"))
        if found[0] == "stuck":
            return found
        rows.append((one, other, found[1]))
    return ("sound", top[1], tuple(rows))


def told_use(joint):
    """The told evidence about the use."""
    found = found_sound(joint)
    if found[0] == "sound":
        return found
    left, patterns = found[1]
    values = told_values(joint.store, joint.kinds, left, patterns)
    rows = read_values(joint.program.shapes, joint.kinds, values)
    put = match(joint.store, joint.case, joint.store.load_values(rows))
    others = joint.store.write([put[variable] for variable in sorted(put) if variable >= joint.start])
    return ("stuck", values[:len(joint.own_kinds)], others)


def shows_use(joint, value):
    """Whether the value is evidence about the use."""
    if has_word(value, "sound", 3):
        return is_tree(joint.store, joint.kinds, joint.case, joint.table, joint.all_numbers(), value[1]) and (
            are_rows_of(joint, value[2]))
    return has_word(value, "stuck", 3) and shows_stuck(joint, value[1], value[2])


def are_rows_of(joint, rows):
    store, kinds = joint.store, joint.kinds
    wanted = []
    for one, other in pairs_of_numbers(joint.there):
        meet = meet_nodes(store, kinds, joint.fits[one], joint.fits[other])
        if meet is not None and store.places(meet) > MOST_IN_MEET:
            return False
        if meet is not None:
            meet = meet_nodes(store, kinds, meet, joint.case)
        if meet is not None:
            wanted.append((one, other, meet, joint.numbers_for(one, other)))
    return are_rows_of_trees(store, kinds, joint.table, wanted, rows)


def shows_stuck(joint, values, others):
    """Whether the values choose the definition, and the arguments have no choice with the others in them."""
    shapes, store = joint.program.shapes, joint.store
    value_rows = read_values(shapes, joint.own_kinds, values)
    other_rows = read_values(shapes, joint.new_kinds(), others)
    if value_rows is None or other_rows is None:
        return False
    nodes = store.load_values(value_rows)
    if not is_choice(store, joint.here, nodes, joint.own):
        return False
    put = match(store, joint.definition.pattern, nodes)
    for i, node in enumerate(store.load_values(other_rows)):
        put[joint.start + i] = node
    arguments = store.instance(joint.case[len(joint.own_kinds):], put)
    return not isinstance(answer(store, joint.there, arguments), int)
