"""Parts of programs, and the definitions on the ways of uses."""

from closestfit.definitions import wanted_program
from closestfit.errors import BadValue
from closestfit.forms import are_ascending_indexes
from closestfit.wanting import untroubled, wanted_uses


def program_part(program, numbers):
    """The program with the definitions with these numbers alone."""
    wanted_program(program)
    signature, generics, definitions = program
    if not are_ascending_indexes(numbers, len(definitions)):
        raise BadValue("numbers")
    return signature, generics, tuple([definitions[number] for number in numbers])


def definitions_on(program, uses):
    """The numbers of all definitions on the ways of these uses."""
    found = wanted_program(program)
    nodes = wanted_uses(found, uses, 0)
    return tuple(sorted({number: True for node in nodes for number in untroubled(found, node).numbers_on_way()}))
