"""The kinds and the generics of a program are read from parts of its text, whose tokens follow the grammar.

A part is a list of tokens; the last one is the ";" behind it, or the end.
"""

from closestfit.definitions import MOST_GENERICS, MOST_PARAMETERS
from closestfit.errors import TextError
from closestfit.signatures import MOST_CONSTRUCTORS, MOST_KINDS, MOST_PARTS, kinds_with_values


def read_signature(parts):
    """The signature whose kinds these parts are."""
    kinds = []
    names = {}
    for part in parts:
        if len(kinds) == MOST_KINDS:
            raise TextError(part[0][2], "there are at most 3 kinds")
        kinds.append(read_kind(part, len(parts), names))
    if len(kinds_with_values(kinds)) < len(kinds):
        raise TextError(parts[-1][-1][2], "a closed kind has no value")
    return tuple(kinds)


def read_kind(part, many, names):
    """One of so many kinds; the names that stood ahead get those of its constructors."""
    how = "closed"
    constructors = []
    for token in part:
        word, characters, column = token
        if word == "constructor":
            if len(constructors) == MOST_CONSTRUCTORS:
                raise TextError(column, "a kind has at most 4 constructors")
            if characters in names:
                raise TextError(column, "this name stands already")
            names[characters] = True
            constructors.append((characters, []))
        if word == "number":
            kinds = constructors[-1][1]
            if len(kinds) == MOST_PARTS:
                raise TextError(column, "a constructor has at most 2 parts")
            kinds.append(read_number(token, many))
        if characters == "..":
            how = "open"
    return (how, tuple([(name, tuple(kinds)) for name, kinds in constructors]))


def read_number(token, many):
    """The number of one of so many kinds."""
    _, characters, column = token
    if int(characters) >= many:
        raise TextError(column, "there is no such kind")
    return int(characters)


def read_generics(parts, many):
    """The generics for so many kinds."""
    generics = []
    for part in parts:
        _, name, column = part[0]
        if len(generics) == MOST_GENERICS:
            raise TextError(column, "there are at most 4 generics")
        if name in [known for known, _, _ in generics]:
            raise TextError(column, "this name stands already")
        *parameters, result = [token for token in part if token[0] == "number"]
        generics.append((name, read_parameters(parameters, many), read_number(result, many)))
    return tuple(generics)


def read_parameters(tokens, many):
    kinds = []
    for token in tokens:
        if len(kinds) == MOST_PARAMETERS:
            raise TextError(token[2], "a generic has at most 3 parameters")
        kinds.append(read_number(token, many))
    return tuple(kinds)
