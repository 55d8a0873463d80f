"""Definitions and uses are read from tokens that follow the grammar.

Terms, bodies and values are read into rows (flat.py): what stands at their
places stands in the text in just this order.
"""

from closestfit.definitions import MOST_DEFINITIONS, MOST_IN_ARGUMENT, MOST_IN_DEFINITION, MOST_OF_ONE, BodyShapes
from closestfit.errors import TextError
from closestfit.flat import written
from closestfit.signatures import Shapes

NAMES = ("variable", "constructor", "generic")


class Place:
    """A name or a stranger in a text, with the number of items in parentheses behind it."""

    def __init__(self, form, head, column, many):
        self.form = form
        self.head = head
        self.column = column
        self.many = many


def items_behind(tokens):
    """For the index of each token that is followed by parentheses, the number of items between them."""
    found = {}
    inner = []
    for index, (_, characters, _) in enumerate(tokens):
        if characters == "(":
            inner.append(index - 1)
            found[index - 1] = 1
        if characters == ",":
            found[inner[-1]] += 1
        if characters == ")":
            inner.pop()
    return found


def places_of(tokens):
    """All names and strangers in the tokens, in order."""
    many = items_behind(tokens)
    found = []
    for index, (form, characters, column) in enumerate(tokens):
        if form in NAMES:
            found.append(Place(form, characters, column, many.get(index, 0)))
        if characters == "#":
            found.append(Place("stranger", ("#", int(tokens[index + 1][1])), column, 0))
    return found


def check_made(forms, place, kind):
    """A constructor or a generic must be there, be of the kind of its place, and have as many parts."""
    if place.head not in forms.kind:
        raise TextError(place.column, f"there is no such {place.form}")
    if forms.kind[place.head] != kind:
        raise TextError(place.column, "this is of another kind")
    check_many(place, forms.parts[place.head])


def check_many(place, kinds):
    if place.many != len(kinds):
        parts = "parts" if place.form == "constructor" else "parameters"
        raise TextError(place.column, f"this {place.form} has another number of {parts}")


def read_definitions(parts, signature, generics):
    """The definitions that these parts of a text are."""
    forms = BodyShapes(Shapes(signature), generics)
    parameters = {name: kinds for name, kinds, _ in generics}
    definitions = []
    for part in parts:
        definitions.append(read_definition(part, forms, parameters, definitions))
    return tuple(definitions)


def read_definition(part, forms, parameters, before):
    """One definition, with those before it."""
    equals = [column for _, characters, column in part if characters == "="][0]
    defined, *places = places_of(part)
    check_defined(defined, parameters, before)
    name = defined.head
    letters = {}
    rows = pattern_rows([place for place in places if place.column < equals], forms, parameters[name], letters)
    pattern = written(forms, rows)
    if any([known == pattern for other, known, _ in before if other == name]):
        raise TextError(equals, "this pattern stands already")
    rows = body_rows([place for place in places if place.column > equals], forms, forms.kind[name], letters)
    return (name, pattern, written(forms, rows)[0])


def check_defined(place, parameters, before):
    """The generic of a definition must be there, and have room for one more."""
    if len(before) == MOST_DEFINITIONS:
        raise TextError(place.column, "there are at most 16 definitions")
    if place.head not in parameters:
        raise TextError(place.column, "there is no such generic")
    if len([name for name, _, _ in before if name == place.head]) == MOST_OF_ONE:
        raise TextError(place.column, "a generic has at most 12 definitions")
    check_many(place, parameters[place.head])


def pattern_rows(places, forms, kinds, letters):
    """The rows of a pattern; each letter gets its number and its kind."""
    rows = []
    waiting = list(kinds)[::-1]
    for place in places:
        kind = waiting.pop()
        if len(rows) == MOST_IN_DEFINITION:
            raise TextError(place.column, "a pattern has at most 12 places")
        if place.form == "variable":
            number, known = letters.setdefault(place.head, (len(letters), kind))
            if known != kind:
                raise TextError(place.column, "this is of another kind")
            rows.append((kind, number))
        else:
            check_made(forms, place, kind)
            rows.append((kind, place.head))
            waiting += forms.parts[place.head][::-1]
    return rows


def body_rows(places, forms, kind, letters):
    """The rows of a body of the kind."""
    rows = []
    waiting = [kind]
    for place in places:
        kind = waiting.pop()
        if len(rows) == MOST_IN_DEFINITION:
            raise TextError(place.column, "a body has at most 12 places")
        if place.form == "variable":
            rows.append((kind, read_variable(place, kind, letters)))
        else:
            check_made(forms, place, kind)
            rows.append((kind, place.head))
            waiting += forms.parts[place.head][::-1]
    return rows


def read_variable(place, kind, letters):
    """The number of a variable of a body."""
    if place.head not in letters:
        raise TextError(place.column, "the pattern does not have this variable")
    number, known = letters[place.head]
    if known != kind:
        raise TextError(place.column, "this is of another kind")
    return number


def read_use_of(program, tokens):
    """The use of the program that the tokens are."""
    used, *places = places_of(tokens)
    if used.head not in program.parameters:
        raise TextError(used.column, "there is no such generic")
    kinds = program.parameters[used.head]
    check_many(used, kinds)
    return (used.head, *written(program.shapes, argument_rows(places, program.shapes, kinds)))


def argument_rows(places, shapes, kinds):
    """The rows of all arguments of a use."""
    rows = []
    start = 0
    arguments = list(kinds)[::-1]
    waiting = []
    for place in places:
        if not waiting:
            waiting.append(arguments.pop())
            start = len(rows)
        kind = waiting.pop()
        if len(rows) - start == MOST_IN_ARGUMENT:
            raise TextError(place.column, "an argument has at most 60 places")
        rows.append((kind, place.head))
        if place.form == "constructor":
            check_made(shapes, place, kind)
            waiting += shapes.parts[place.head][::-1]
        elif not shapes.is_open[kind]:
            raise TextError(place.column, "a closed kind has no strangers")
    return rows
