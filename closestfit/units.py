"""Whether units choose as the whole program, and what a unit must import for some uses."""

from closestfit.definitions import wanted_program
from closestfit.forms import are_ascending_indexes
from closestfit.importing import names_in, want_unit, wanted_modules_of
from closestfit.seeing import shows_bare, shows_units, told_all, told_bare_row, told_row
from closestfit.wanting import untroubled, wanted_uses


def loaded(program, modules):
    whole = wanted_program(program)
    return whole, wanted_modules_of(whole, modules)


def units_evidence(program, modules):
    """The told evidence that every unit chooses as the whole, or that some unit does not."""
    whole, found = loaded(program, modules)
    return told_all(whole, found, told_row)


def accepts_units(program, modules, value):
    """Whether the value is evidence of either word about all units."""
    whole, found = loaded(program, modules)
    return shows_units(whole, found, value)


def bare_evidence(program, modules):
    """The told evidence that every bare unit chooses as the whole, or that some bare unit does not."""
    whole, found = loaded(program, modules)
    return told_all(whole, found, told_bare_row)


def accepts_bare(program, modules, value):
    """Whether the value is evidence of either word about all bare units."""
    whole, found = loaded(program, modules)
    return shows_bare(whole, found, value)


def wanted_modules(program, modules, uses):
    """The modules that are wanted by the uses."""
    whole, found = loaded(program, modules)
    nodes = wanted_uses(whole, uses, 1)
    numbers = [number for node in nodes for number in untroubled(whole, node).numbers_on_way()]
    of_uses = found.of_names(names_in(whole, nodes))
    return tuple(sorted({module: True for module in (*of_uses, *[found.of_definition[number] for number in numbers])}))


def loaded_imports(program, modules, unit, wanted):
    """The modules as they were read, where the unit and what is wanted are both ascending tuples of modules."""
    _, found = loaded(program, modules)
    want_unit(found, unit, "unit")
    want_unit(found, wanted, "wanted")
    return found


def further_imports(program, modules, unit, wanted):
    """The first of the smallest tuples of modules that the unit must import, too, to reach all that are wanted."""
    return least_imports(loaded_imports(program, modules, unit, wanted), unit, wanted)


def accepts_imports(program, modules, unit, wanted, value):
    """Whether the value is further imports."""
    found = loaded_imports(program, modules, unit, wanted)
    if not are_ascending_indexes(value, found.many) or len(value) != len(least_imports(found, unit, wanted)):
        return False
    return do_reach_wanted(found, unit, wanted, value)


def least_imports(modules, unit, wanted):
    tuples = [()]
    for module in range(modules.many):
        tuples = [*tuples, *[(*row, module) for row in tuples]]
    right = [row for row in tuples if do_reach_wanted(modules, unit, wanted, row)]
    return min(right, key=lambda row: (len(row), row))


def do_reach_wanted(modules, unit, wanted, further):
    reached = modules.reached_from((*unit, *further))
    return all([module in reached for module in wanted])
