"""What units see of a program: whether all units, or all bare ones, choose as the whole."""

from closestfit.checks import MOST_PLACES
from closestfit.clearing import asked, found_chosen, shows_chosen, with_values
from closestfit.cutting import CutTable
from closestfit.definitions import read_use
from closestfit.equations import are_indexes
from closestfit.forms import are_ascending_indexes, has_word, is_tuple_of
from closestfit.importing import names_in
from closestfit.trees import is_tree


def starts_of(program, modules, number):
    """The modules with which a path to the definition may begin."""
    definition = program.definitions[number]
    return modules.of_names([definition.name, *names_in(program, definition.pattern)])


def told_path(program, modules, number):
    """The first of the shortest paths to the definition, or None if it is not reached."""
    end = modules.of_definition[number]
    away = {end: 0}
    for steps in range(1, modules.many):
        further = [module for module in range(modules.many)
                   if module not in away and any([far in away for far in modules.imports[module]])]
        for module in further:
            away[module] = steps
    starts = [(away[module], module) for module in starts_of(program, modules, number) if module in away]
    if not starts:
        return None
    path = [min(starts)[1]]
    while path[-1] != end:
        path.append(min([(away[far], far) for far in modules.imports[path[-1]] if far in away])[1])
    return tuple(path)


def is_path(program, modules, number, value):
    """Whether whatever is judged is a path to the definition."""
    if not are_indexes(value, modules.many, 1, modules.many) or len({module: True for module in value}) < len(value):
        return False
    if value[0] not in starts_of(program, modules, number) or value[-1] != modules.of_definition[number]:
        return False
    return all([far in modules.imports[near] for near, far in zip(value, value[1:])])


def told_row(program, modules, number):
    """The row of the definition for all units, or the told evidence with "some"."""
    path = told_path(program, modules, number)
    if path is not None:
        return ("reached", path)
    name = program.definitions[number].name
    found = found_chosen(program.store, program.parameters[name], program.tables[name], own_number(program, number))
    return never_or_some(program, modules, number, program.store, found)


def own_number(program, number):
    """The number of the definition in the table of its generic."""
    return program.numbers[program.definitions[number].name].index(number)


def told_bare_row(program, modules, number):
    """The row of the definition for all bare units, or the told evidence with "some"."""
    path = told_path(program, modules, number)
    if path is not None:
        return ("reached", path)
    cut = CutTable(program, modules, number)
    if cut.has_empty:
        return ("empty", cut.empty)
    found = asked(cut.store, cut.kinds, cut.case, cut.table, cut.numbers, ("never", "chosen"))
    return never_or_some(program, modules, number, cut.store, found)


def never_or_some(program, modules, number, store, found):
    """The row with the tree, or the use of what is left and a unit that can write it."""
    name = program.definitions[number].name
    word, told = with_values(store, program.parameters[name], found, "chosen")
    if word == "never":
        return (word, told)
    use = (name, *told)
    return ("some", modules.of_names(names_in(program, (read_use(program, use, MOST_PLACES),))), use)


def told_all(program, modules, told):
    """("all", rows) with the row that is told for each definition, or the first evidence with "some"."""
    rows = []
    for number in range(len(program.definitions)):
        row = told(program, modules, number)
        if row[0] == "some":
            return row
        rows.append(row)
    return ("all", tuple(rows))


def shows_units(program, modules, value):
    """Whether the value is evidence of either word about all units."""
    if has_word(value, "some", 3):
        return read_unseen(program, modules, value[1], value[2]) is not None
    return has_word(value, "all", 2) and are_rows_by(program, modules, value[1], is_row)


def shows_bare(program, modules, value):
    """Whether the value is evidence of either word about all bare units."""
    if has_word(value, "some", 3):
        use = read_unseen(program, modules, value[1], value[2])
        return use is not None and has_no_stranger(program, use)
    return has_word(value, "all", 2) and are_rows_by(program, modules, value[1], is_bare_row)


def read_unseen(program, modules, unit, use):
    """The node of a use that the unit can write and that chooses a definition that it does not see, or None."""
    node = read_use(program, use, MOST_PLACES)
    if node is None or not are_ascending_indexes(unit, modules.many):
        return None
    reached = modules.reached_from(unit)
    if not all([module in reached for module in modules.of_names(names_in(program, (node,)))]):
        return None
    number = program.choice(node)
    return node if isinstance(number, int) and modules.of_definition[number] not in reached else None


def has_no_stranger(program, use):
    return all([isinstance(program.store.heads[node], str) for node in program.store.inside((use,))])


def are_rows_by(program, modules, rows, accepts):
    """Whether the rows are one accepted row for each definition."""
    many = len(program.definitions)
    if not is_tuple_of(rows, many, many):
        return False
    return all([accepts(program, modules, number, row) for number, row in enumerate(rows)])


def is_row(program, modules, number, row):
    if has_word(row, "reached", 2):
        return is_path(program, modules, number, row[1])
    name = program.definitions[number].name
    return has_word(row, "never", 2) and shows_chosen(
        program.store, program.parameters[name], program.tables[name], own_number(program, number), row)


def is_bare_row(program, modules, number, row):
    if has_word(row, "reached", 2):
        return is_path(program, modules, number, row[1])
    if has_word(row, "empty", 2):
        return are_empty(program, modules, number, row[1])
    if not has_word(row, "never", 2):
        return False
    cut = CutTable(program, modules, number)
    if cut.case is None or cut.has_empty:
        return False
    return is_tree(cut.store, cut.kinds, cut.case, cut.table, cut.numbers, row[1])


def are_empty(program, modules, number, kinds):
    """Whether no value of these kinds can be made without the definition, and a variable of the pattern is of one."""
    shapes = program.shapes
    if not are_ascending_indexes(kinds, len(shapes.signature)):
        return False
    definition = program.definitions[number]
    standing = program.store.variables(program.parameters[definition.name], definition.pattern)
    if not any([kind in kinds for kind in standing.values()]):
        return False
    without = modules.without(number)
    made = [parts for kind in kinds for name, parts in shapes.constructors[kind] if modules.of_name[name] in without]
    return all([any([part in kinds for part in parts]) for parts in made])
