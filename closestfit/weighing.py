"""What counts ahead and behind at the uses in bodies, and what weights and mixes say about them.

All parameters of the generics stand in one row, those of the first generic
first; so do weights that are called flat.
"""

from closestfit.forms import is_natural, is_tuple_of
from closestfit.steps import listed_uses


class BodyUse:
    """A use in a body.

    For each parameter, the first row has the places ahead less those behind,
    and a further one for each variable of the pattern how often it stands
    ahead less how often behind. Nothing counts behind in awaited arguments.
    """

    def __init__(self, definition, path, rows, awaited):
        self.definition = definition
        self.path = path
        self.rows = rows
        self.awaited = awaited


class Weighing:
    """The uses in bodies of a program, in order."""

    def __init__(self, program):
        self.program = program
        self.starts = {}
        self.many = 0
        for name in program.names:
            self.starts[name] = self.many
            self.many += len(program.parameters[name])
        self.uses = []
        for number in range(len(program.definitions)):
            for path, node in listed_uses(program, number):
                self.uses.append(self._weighed(number, path, node))

    def _weighed(self, number, path, node):
        store = self.program.store
        definition = self.program.definitions[number]
        many = store.greatest_in(definition.pattern) + 1
        rows = [[0 for _ in range(self.many)] for _ in range(many + 1)]
        awaited = []
        self._count(rows, self.starts[definition.name], definition.pattern, 1)
        start = self.starts[store.heads[node]]
        for i, argument in enumerate(store.parts[node]):
            if any([self.program.is_use(inner) for inner in store.inside((argument,))]):
                awaited.append(start + i)
            else:
                self._count(rows, start + i, (argument,), -1)
        return BodyUse(number, path, rows, awaited)

    def _count(self, rows, start, terms, by):
        """Counts all places of the terms, the first of which is the one of the parameter start."""
        store = self.program.store
        for i, term in enumerate(terms):
            rows[0][start + i] += by * store.sizes[term]
            for variable in variables_in(store, term):
                rows[variable + 1][start + i] += by

    def flattened(self, weights):
        return [weight for row in weights for weight in row]

    def unflattened(self, flat):
        found = []
        for name in self.program.names:
            start = self.starts[name]
            found.append(tuple(flat[start:start + len(self.program.parameters[name])]))
        return tuple(found)

    def state(self, flat, number):
        """"falls", "holds" or "neither"."""
        use = self.uses[number]
        sums = [weight_of(row, flat) for row in use.rows]
        if min(sums) < 0 or any([flat[parameter] for parameter in use.awaited]):
            return "neither"
        return "falls" if sums[0] > 0 else "holds"

    def free_of(self, left):
        """The parameters that are free of these uses."""
        awaited = {parameter: True for number in left for parameter in self.uses[number].awaited}
        return [parameter for parameter in range(self.many) if parameter not in awaited]

    def is_mix(self, value):
        if not is_tuple_of(value, len(self.uses), len(self.uses)):
            return False
        return all([is_pair_of_mix(pair, len(use.rows) - 1) for use, pair in zip(self.uses, value)])

    def gains_nothing(self, mix, left):
        """Whether the mix is one over these uses, and gains nothing over them."""
        totals = [0 for _ in range(self.many)]
        for number, (count, counts) in enumerate(mix):
            if number not in left and any([count, *counts]):
                return False
            for times, row in zip((count, *counts), self.uses[number].rows):
                if times:
                    totals = [total + times * item for total, item in zip(totals, row)]
        return all([totals[parameter] <= 0 for parameter in self.free_of(left)])


def variables_in(store, term):
    """The variables in a term, as often as they stand there."""
    found = []
    waiting = [term]
    while waiting:
        node = waiting.pop()
        if store.is_variable(node):
            found.append(store.heads[node])
        waiting += store.parts[node]
    return found


def weight_of(row, flat):
    return sum([item * weight for item, weight in zip(row, flat)])


def is_pair_of_mix(value, many):
    """Whether this is a count, and counts for so many variables."""
    if not is_tuple_of(value, 2, 2) or not is_natural(value[0]):
        return False
    return is_tuple_of(value[1], many, many) and all([is_natural(count) for count in value[1]])


def are_weights(program, value):
    if not is_tuple_of(value, len(program.names), len(program.names)):
        return False
    return all([are_weights_of(row, len(program.parameters[name])) for name, row in zip(program.names, value)])


def are_weights_of(value, many):
    return is_tuple_of(value, many, many) and all([is_natural(weight) for weight in value])
