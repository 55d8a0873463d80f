"""Cases, patterns and tables: their forms, and the checks of arguments that are such."""

from closestfit.checks import read_values
from closestfit.errors import BadValue
from closestfit.flat import VARIABLES, read
from closestfit.forms import are_ascending_indexes, is_index, is_tuple_of

MOST_IN_CASE = 60
MOST_IN_PATTERN = 16
MOST_PATTERNS = 12


def read_case(shapes, kinds, value):
    """The rows of a case of the kinds, or None."""
    rows = read(shapes, kinds, value, MOST_IN_CASE, VARIABLES)
    return rows if rows is not None and has_one_kind_each(rows) else None


def has_one_kind_each(rows):
    """Whether each variable stands at places of one kind."""
    kinds = {}
    return all([not isinstance(head, int) or kinds.setdefault(head, kind) == kind for kind, head in rows])


def read_pattern(shapes, kinds, value):
    """The rows of a pattern of the kinds, or None."""
    rows = read_case(shapes, kinds, value)
    if rows is None or len(rows) > MOST_IN_PATTERN or not are_numbered(rows):
        return None
    return rows


def are_numbered(rows):
    following = 0
    for _, head in rows:
        if isinstance(head, int) and head > following:
            return False
        if isinstance(head, int) and head == following:
            following += 1
    return True


def read_table(shapes, kinds, value):
    """The rows of each pattern of a table of the kinds, or None."""
    if not is_tuple_of(value, 0, MOST_PATTERNS):
        return None
    found = [read_pattern(shapes, kinds, pattern) for pattern in value]
    if None in found or len({tuple(rows) for rows in found}) < len(found):
        return None
    return found


def wanted_case(shapes, kinds, case, name):
    rows = read_case(shapes, kinds, case)
    if rows is None:
        raise BadValue(name)
    return rows


def wanted_given(shapes, kinds, terms):
    """The rows of each of the given terms, which are a case or values."""
    rows = read_case(shapes, kinds, terms)
    if rows is not None:
        return [rows]
    found = read_values(shapes, kinds, terms)
    if found is None:
        raise BadValue("terms")
    return found


def wanted_table(shapes, kinds, table, name="table"):
    found = read_table(shapes, kinds, table)
    if found is None:
        raise BadValue(name)
    return found


def want_number(table, number):
    if not is_index(number, len(table)):
        raise BadValue("number")


def want_numbers(table, numbers):
    if not are_ascending_indexes(numbers, len(table)):
        raise BadValue("numbers")
