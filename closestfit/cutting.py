"""Signatures cut to what some modules have, and the table of a generic over such a signature."""

from closestfit.cases import read_pattern
from closestfit.fixing import not_above
from closestfit.signatures import Shapes, kinds_with_values
from closestfit.terms import Terms


def cut_to(program, modules, reached):
    """The signature cut to these modules, which reach no others."""
    rows = program.shapes.constructors
    known = [[constructor for constructor in row if modules.of_name[constructor[0]] in reached] for row in rows]
    # Without strangers, so also the open kinds have only what is made.
    found = kinds_with_values([("closed", row) for row in known])
    left = [[constructor for constructor in row if all([part in found for part in constructor[1]])] for row in known]
    return tuple([("closed", tuple(row)) if row else ("open", ()) for row in left])


class CutTable:
    """The table of the generic of a definition over the signature cut to the modules without the definition.

    A pattern with a constructor that is not left is None in the table. The
    case is the pattern of the definition, and the numbers are those of the
    patterns that it is not an instance of and whose constructors are left.
    """

    def __init__(self, program, modules, number):
        definition = program.definitions[number]
        own = program.numbers[definition.name].index(number)
        whole = program.tables[definition.name]
        shapes = Shapes(cut_to(program, modules, modules.without(number)))
        self.kinds = program.parameters[definition.name]
        self.store = Terms(shapes)
        self.table = [self._loaded(program.store.write(pattern)) for pattern in whole]
        self.case = self.table[own]
        self.numbers = tuple([s for s in not_above(program.store, whole, own) if self.table[s] is not None])
        self.empty = tuple([kind for kind in range(len(shapes.signature)) if shapes.is_open[kind]])
        standing = program.store.variables(self.kinds, definition.pattern)
        self.has_empty = any([kind in self.empty for kind in standing.values()])

    def _loaded(self, pattern):
        """The nodes of the pattern, or None if one of its constructors is not left."""
        rows = read_pattern(self.store.shapes, self.kinds, pattern)
        return None if rows is None else self.store.load(rows)
