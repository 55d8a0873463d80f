"""Programs, their uses, and which of them are flat."""

from closestfit.definitions import MOST_IN_ARGUMENT, read_program, read_use, want_number, wanted_program, wanted_use
from closestfit.errors import NotPossible
from closestfit.flatness import first_not_flat
from closestfit.steps import listed_uses, step_node


def is_program(value):
    """Whether the value is a program."""
    return read_program(value) is not None


def is_use(program, value):
    """Whether the value is a use of the program."""
    return read_use(wanted_program(program), value, MOST_IN_ARGUMENT) is not None


def chosen(program, use):
    """The choice of the use: the index of a definition, "none", or ("two", one, other)."""
    found = wanted_program(program)
    return found.choice(wanted_use(found, use))


def step(program, use):
    """The body of the definition that the use chooses, with its values for the variables."""
    found = wanted_program(program)
    node = wanted_use(found, use)
    number = found.choice(node)
    if number == "none":
        raise NotPossible("none")
    if not isinstance(number, int):
        raise NotPossible("two")
    return found.store.write((step_node(found, node, number),))[0]


def uses_in(program, number):
    """The paths of the uses in the body of the definition, as listed."""
    found = wanted_program(program)
    want_number(found, number)
    return tuple([path for path, _ in listed_uses(found, number)])


def first_unflat(program):
    """None if the program is flat; otherwise the first definition that is not, and None or the path of a use."""
    return first_not_flat(wanted_program(program))
