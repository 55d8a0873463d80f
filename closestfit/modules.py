"""Modules of a program, and what a unit that imports some of them has."""

from closestfit.cutting import cut_to
from closestfit.definitions import wanted_program
from closestfit.importing import read_modules, want_unit, wanted_modules_of


def is_modules(program, value):
    """Whether the value is modules of the program."""
    return read_modules(wanted_program(program), value) is not None


def reached_of(program, modules, unit):
    """The program and its modules as they were read, and the modules that the unit reaches."""
    whole = wanted_program(program)
    found = wanted_modules_of(whole, modules)
    want_unit(found, unit, "unit")
    return whole, found, found.reached_from(unit)


def reached_by(program, modules, unit):
    """The ascending tuple of the modules that the unit reaches."""
    _, _, reached = reached_of(program, modules, unit)
    return tuple(reached)


def program_of(program, modules, unit):
    """The program with the definitions alone that the unit sees."""
    _, found, reached = reached_of(program, modules, unit)
    signature, generics, definitions = program
    seen = [definition for definition, module in zip(definitions, found.of_definition) if module in reached]
    return signature, generics, tuple(seen)


def cut_signature(program, modules, unit):
    """The signature cut to the unit."""
    whole, found, reached = reached_of(program, modules, unit)
    return cut_to(whole, found, reached)
