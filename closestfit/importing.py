"""Modules of a program: their form, and what they reach."""

from closestfit.equations import are_indexes
from closestfit.errors import BadValue
from closestfit.forms import are_ascending_indexes, is_tuple_of

MOST_MODULES = 6


class Modules:
    """Modules of a program.

    For each module, `imports` has those that it imports, and `reach` those
    that it reaches, in ascending order. `of_name` has the module of each
    constructor and of each generic, `of_definition` that of each definition.
    """

    def __init__(self, imports, of_name, of_definition):
        self.many = len(imports)
        self.imports = imports
        self.of_name = of_name
        self.of_definition = of_definition
        self.reach = [self.reached_from((module,)) for module in range(self.many)]

    def reached_from(self, unit):
        """The modules that these and whatever they import reach."""
        found = {}
        waiting = list(unit)
        while waiting:
            module = waiting.pop()
            if module not in found:
                found[module] = True
                waiting += self.imports[module]
        return sorted(found)

    def without(self, number):
        """The modules that do not reach the module of the definition."""
        return [module for module in range(self.many) if self.of_definition[number] not in self.reach[module]]

    def of_names(self, names):
        """The modules of these constructors and generics, in ascending order."""
        return tuple(sorted({self.of_name[name]: True for name in names}))


def names_in(program, nodes):
    """The names of the constructors and of the generics in the nodes."""
    heads = [program.store.heads[node] for node in program.store.inside(nodes)]
    return [head for head in heads if isinstance(head, str)]


def are_imports(value):
    if not is_tuple_of(value, 1, MOST_MODULES):
        return False
    many = len(value)
    return all([are_ascending_indexes(row, many) and module not in row for module, row in enumerate(value)])


def are_modules_of(value, length, many):
    """Whether this is a tuple of modules for so many things."""
    return are_indexes(value, many, length, length)


def read_modules(program, value):
    """The modules of the program, or None."""
    if not is_tuple_of(value, 4, 4) or not are_imports(value[0]):
        return None
    imports, of_constructors, of_generics, of_definitions = value
    many = len(imports)
    rows = program.shapes.constructors
    if not is_tuple_of(of_constructors, len(rows), len(rows)):
        return None
    if not all([are_modules_of(modules, len(row), many) for modules, row in zip(of_constructors, rows)]):
        return None
    if not are_modules_of(of_generics, len(program.names), many):
        return None
    if not are_modules_of(of_definitions, len(program.definitions), many):
        return None
    of_name = dict(zip(program.names, of_generics))
    for modules, row in zip(of_constructors, rows):
        of_name.update({name: module for module, (name, _) in zip(modules, row)})
    found = Modules(imports, of_name, of_definitions)
    return found if do_reach(program, found) else None


def do_reach(program, modules):
    """Whether each module reaches what stands in it."""
    shapes = program.shapes
    of_kind = {}
    for kind, row in enumerate(shapes.constructors):
        if not shapes.is_open[kind]:
            of_kind[kind] = modules.of_names([name for name, _ in row])
    if not all([len(found) == 1 for found in of_kind.values()]):
        return False
    wanted = [(modules.of_name[name], parts) for row in shapes.constructors for name, parts in row]
    wanted += [(modules.of_name[name], (*program.parameters[name], program.results[name])) for name in program.names]
    # An open kind is in no module.
    if not all([of_kind[kind][0] in modules.reach[at] for at, kinds in wanted for kind in kinds if kind in of_kind]):
        return False
    return all([does_reach_names(program, modules, number) for number in range(len(program.definitions))])


def does_reach_names(program, modules, number):
    """Whether the module of the definition reaches all names that stand in it."""
    definition = program.definitions[number]
    names = [definition.name, *names_in(program, (*definition.pattern, definition.body))]
    reached = modules.reach[modules.of_definition[number]]
    return all([modules.of_name[name] in reached for name in names])


def wanted_modules_of(program, modules):
    found = read_modules(program, modules)
    if found is None:
        raise BadValue("modules")
    return found


def want_unit(modules, unit, name):
    if not are_ascending_indexes(unit, modules.many):
        raise BadValue(name)
