"""Signatures: their form, and what is looked up in them again and again."""

from closestfit.forms import is_index, is_tuple_of

MOST_KINDS = 3
MOST_CONSTRUCTORS = 4
MOST_PARTS = 2


def is_name(value):
    if not isinstance(value, str) or not 2 <= len(value) <= 8:
        return False
    return all("a" <= letter <= "z" for letter in value)


def are_parts(value, many):
    """Whether the value is a tuple of at most two of so many kinds."""
    return is_tuple_of(value, 0, MOST_PARTS) and all(is_index(kind, many) for kind in value)


def is_constructor(value, many):
    return is_tuple_of(value, 2, 2) and is_name(value[0]) and are_parts(value[1], many)


def is_kind_form(value, many):
    if not is_tuple_of(value, 2, 2):
        return False
    how, constructors = value
    if not isinstance(how, str) or how not in ("closed", "open"):
        return False
    if not is_tuple_of(constructors, 0, MOST_CONSTRUCTORS):
        return False
    return all(is_constructor(constructor, many) for constructor in constructors)


def kinds_with_values(signature):
    """The kinds that have a value, as a dict, found one after another."""
    found = {}
    for _ in signature:
        for kind, (how, constructors) in enumerate(signature):
            if how == "open" or any([all([part in found for part in parts]) for _, parts in constructors]):
                found[kind] = True
    return found


def is_signature_form(value):
    if not is_tuple_of(value, 1, MOST_KINDS):
        return False
    many = len(value)
    if not all(is_kind_form(kind, many) for kind in value):
        return False
    names = [name for _, constructors in value for name, _ in constructors]
    if len(set(names)) < len(names):
        return False
    return len(kinds_with_values(value)) == many


def kinds_led_to(signature):
    """For each kind the kinds that it leads to, as a dict."""
    led = [{part: True for _, parts in constructors for part in parts} for _, constructors in signature]
    for _ in signature:
        led = [{**row, **{far: True for near in row for far in led[near]}} for row in led]
    return led


class Shapes:
    """What is looked up in a signature."""

    def __init__(self, signature):
        self.signature = signature
        self.is_open = [how == "open" for how, _ in signature]
        self.constructors = [constructors for _, constructors in signature]
        self.kind = {}
        self.parts = {}
        self.place = {}
        for kind, (_, constructors) in enumerate(signature):
            for place, (name, parts) in enumerate(constructors):
                self.kind[name] = kind
                self.parts[name] = parts
                self.place[name] = place
        self.led = kinds_led_to(signature)
        self.finite = [self._ends(kind) for kind in range(len(signature))]

    def _ends(self, kind):
        if self.is_open[kind]:
            return False
        return all([not self.is_open[far] and far not in self.led[far] for far in self.led[kind]])

    def width(self, kind):
        """The number of the constructors of the kind."""
        return len(self.constructors[kind])
