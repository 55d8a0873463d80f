"""Programs: their form, and what is looked up in them again and again.

A body is read as terms are, with the generics beside the constructors: they
have other names. In the store a use is a node whose head is the name of its
generic, in bodies and among values alike.
"""

from closestfit.cases import read_pattern
from closestfit.choosing import answer
from closestfit.errors import BadValue
from closestfit.flat import VARIABLES, read, read_value
from closestfit.forms import is_index, is_tuple_of
from closestfit.signatures import Shapes, is_signature_form
from closestfit.terms import Terms

MOST_GENERICS = 4
MOST_PARAMETERS = 3
MOST_DEFINITIONS = 16
MOST_OF_ONE = 12
MOST_IN_DEFINITION = 12
MOST_IN_ARGUMENT = 60


class BodyShapes:
    """What is looked up in a signature and in generics, where a body is read."""

    def __init__(self, shapes, generics):
        self.is_open = shapes.is_open
        self.kind = {**shapes.kind, **{name: kind for name, _, kind in generics}}
        self.parts = {**shapes.parts, **{name: kinds for name, kinds, _ in generics}}


class Definition:
    """A definition: its generic's name, and nodes of its pattern and of its body."""

    def __init__(self, name, pattern, body):
        self.name = name
        self.pattern = pattern
        self.body = body


class Program:
    """A program, with a store that has all its patterns and bodies."""

    def __init__(self, shapes, generics):
        self.shapes = shapes
        self.store = Terms(shapes)
        self.forms = BodyShapes(shapes, generics)
        self.names = [name for name, _, _ in generics]
        self.parameters = {name: kinds for name, kinds, _ in generics}
        self.results = {name: kind for name, _, kind in generics}
        self.definitions = []
        # For each generic the numbers of its definitions, and their patterns.
        self.numbers = {name: [] for name in self.names}
        self.tables = {name: [] for name in self.names}

    def define(self, name, pattern_rows, body_rows):
        """Puts a definition behind the others."""
        pattern = self.store.load(pattern_rows)
        body = self.store.load_by(self.forms, body_rows)[0]
        self.numbers[name].append(len(self.definitions))
        self.tables[name].append(pattern)
        self.definitions.append(Definition(name, pattern, body))

    def is_use(self, node):
        return self.store.heads[node] in self.parameters

    def choice(self, use):
        """The number of a definition, "none", or ("two", one, other) with the numbers of two definitions."""
        name = self.store.heads[use]
        found = answer(self.store, self.tables[name], self.store.parts[use])
        if isinstance(found, int):
            return self.numbers[name][found]
        if found == "none":
            return found
        return ("two", self.numbers[name][found[1]], self.numbers[name][found[2]])


def is_generic_name(value):
    if not isinstance(value, str) or not 1 <= len(value) <= 8:
        return False
    return "A" <= value[0] <= "Z" and all("a" <= letter <= "z" for letter in value[1:])


def is_generic(value, many):
    """Whether this is a generic for so many kinds."""
    if not is_tuple_of(value, 3, 3) or not is_generic_name(value[0]) or not is_index(value[2], many):
        return False
    return is_tuple_of(value[1], 1, MOST_PARAMETERS) and all(is_index(kind, many) for kind in value[1])


def are_generics(value, many):
    if not is_tuple_of(value, 1, MOST_GENERICS) or not all(is_generic(generic, many) for generic in value):
        return False
    return len(set([name for name, _, _ in value])) == len(value)


def read_program(value):
    """The program, or None."""
    if not is_tuple_of(value, 3, 3) or not is_signature_form(value[0]):
        return None
    signature, generics, definitions = value
    if not are_generics(generics, len(signature)) or not is_tuple_of(definitions, 0, MOST_DEFINITIONS):
        return None
    program = Program(Shapes(signature), generics)
    for definition in definitions:
        rows = read_definition(program, definition)
        if rows is None:
            return None
        program.define(*rows)
    return program if all([is_table(table) for table in program.tables.values()]) else None


def is_table(table):
    """Whether these are not too many patterns, and all different."""
    return len(table) <= MOST_OF_ONE and len(set(table)) == len(table)


def read_definition(program, value):
    """The name of the generic, and the rows of the pattern and of the body; None if it is no definition."""
    if not is_tuple_of(value, 3, 3) or not isinstance(value[0], str) or value[0] not in program.parameters:
        return None
    name, pattern, body = value
    pattern_rows = read_pattern(program.shapes, program.parameters[name], pattern)
    if pattern_rows is None or len(pattern_rows) > MOST_IN_DEFINITION:
        return None
    body_rows = read(program.forms, (program.results[name],), (body,), MOST_IN_DEFINITION, VARIABLES)
    if body_rows is None:
        return None
    kinds = {head: kind for kind, head in pattern_rows if isinstance(head, int)}
    fitting = all([kinds.get(head) == kind for kind, head in body_rows if isinstance(head, int)])
    return (name, pattern_rows, body_rows) if fitting else None


def wanted_program(program):
    found = read_program(program)
    if found is None:
        raise BadValue("program")
    return found


def read_use(program, value, most):
    """The node of a use whose values have at most so many places each, or None."""
    if not isinstance(value, tuple) or not value or not isinstance(value[0], str):
        return None
    name = value[0]
    if name not in program.parameters or len(value) != len(program.parameters[name]) + 1:
        return None
    kinds = program.parameters[name]
    rows = [read_value(program.shapes, kind, part, most) for kind, part in zip(kinds, value[1:])]
    return None if None in rows else program.store.put(name, program.store.load_values(rows))


def wanted_use(program, use):
    found = read_use(program, use, MOST_IN_ARGUMENT)
    if found is None:
        raise BadValue("use")
    return found


def want_number(program, number):
    if not is_index(number, len(program.definitions)):
        raise BadValue("number")
