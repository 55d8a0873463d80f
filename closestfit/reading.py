"""Programs and uses are read from texts."""

from closestfit.definition_texts import read_definitions, read_use_of
from closestfit.definitions import wanted_program
from closestfit.errors import BadValue
from closestfit.grammar import STARTS, can_come, followed
from closestfit.scanning import is_text, scan
from closestfit.signature_texts import read_generics, read_signature


def next_tokens(text, kind):
    """The list of what can come behind the tokens of the text, which is the beginning of one of this kind."""
    if not is_text(text):
        raise BadValue("text")
    if not isinstance(kind, str) or kind not in STARTS:
        raise BadValue("kind")
    return can_come(followed(scan(text)[:-1], kind))


def parts_between(tokens):
    """The parts of the text of a program, as lists of tokens, each with the ";" behind it, or the end."""
    parts = [[]]
    for token in tokens:
        parts[-1].append(token)
        if token[1] == ";":
            parts.append([])
    return parts


def read_program(text):
    """The program of which this is a text."""
    tokens = scan(text)
    followed(tokens, "program")
    parts = parts_between(tokens)
    kinds = [part for part in parts if part[0][0] != "generic"]
    others = parts[len(kinds):]
    heads = [part for part in others if part[2][0] == "number"]
    signature = read_signature(kinds)
    generics = read_generics(heads, len(kinds))
    return signature, generics, read_definitions(others[len(heads):], signature, generics)


def read_use(program, text):
    """The use of the program of which this is a text."""
    found = wanted_program(program)
    tokens = scan(text)
    followed(tokens, "use")
    return read_use_of(found, tokens)
