"""Texts taken apart into tokens."""

from closestfit.errors import BadValue, TextError

MOST_CHARACTERS = 8000
MOST_LETTERS = 8
MOST_DIGITS = 6
SIGNS = ("(", ")", ",", ";", ":", "=", "|", "..", "#")


def is_text(value):
    return isinstance(value, str) and len(value) <= MOST_CHARACTERS and "\n" not in value


def is_small(letter):
    return "a" <= letter <= "z"


def is_capital(letter):
    return "A" <= letter <= "Z"


def is_digit(letter):
    return "0" <= letter <= "9"


def scan(text):
    """The list of the tokens of a text, each a triple of kind, characters and column."""
    if not is_text(text):
        raise BadValue("text")
    tokens = []
    at = 0
    while at < len(text):
        if text[at] == " ":
            at += 1
            continue
        kind, characters = token_at(text, at)
        tokens.append((kind, characters, at + 1))
        at += len(characters)
    tokens.append(("end", "", len(text) + 1))
    return tokens


def token_at(text, at):
    """The kind and the characters of the token that begins there."""
    if is_small(text[at]):
        characters = text[at:end_of_run(text, at, is_small)]
        return ("variable" if len(characters) == 1 else "constructor"), wanted_name(characters, at)
    if is_capital(text[at]):
        return "generic", wanted_name(text[at:end_of_run(text, at + 1, is_small)], at)
    if is_digit(text[at]):
        return "number", wanted_number(text[at:end_of_run(text, at, is_digit)], at)
    for sign in SIGNS:
        if text[at:at + len(sign)] == sign:
            return "sign", sign
    raise TextError(at + 1, "no token begins here")


def end_of_run(text, at, belongs):
    """The index behind the characters from there on that belong together."""
    while at < len(text) and belongs(text[at]):
        at += 1
    return at


def wanted_name(characters, at):
    if len(characters) > MOST_LETTERS:
        raise TextError(at + 1, "a name has at most 8 letters")
    return characters


def wanted_number(characters, at):
    if len(characters) > MOST_DIGITS:
        raise TextError(at + 1, "a number has at most 6 digits")
    return characters
