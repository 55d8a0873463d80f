"""Texts of programs and of uses."""

from closestfit.definitions import wanted_program, wanted_use
from closestfit.errors import BadValue

LETTERS = "abcdefghijklmnopqrstuvwxyz"
MOST_STRANGER = 999999


def with_items(name, items):
    """The name with the items in parentheses behind it, if there are some."""
    if not items:
        return name
    inner = ", ".join(items)
    return f"{name}({inner})"


def term_texts(store, roots):
    """The texts of the nodes of terms, bodies or values."""
    texts = {}
    for node in store.inside(roots):
        head = store.heads[node]
        if isinstance(head, int):
            texts[node] = LETTERS[head]
        elif isinstance(head, str):
            texts[node] = with_items(head, [texts[part] for part in store.parts[node]])
        else:
            texts[node] = f"#{head[1]}"
    return [texts[root] for root in roots]


def kind_text(how, constructors):
    forms = [with_items(name, [str(kind) for kind in kinds]) for name, kinds in constructors]
    if how == "open":
        forms.append("..")
    return " | ".join(forms)


def generic_text(name, kinds, kind):
    return with_items(name, [str(number) for number in kinds]) + f": {kind}"


def definition_text(store, definition):
    left = with_items(definition.name, term_texts(store, definition.pattern))
    return f"{left} = {term_texts(store, (definition.body,))[0]}"


def program_text(program):
    """The text of a program."""
    found = wanted_program(program)
    signature, generics, _ = program
    parts = [kind_text(how, constructors) for how, constructors in signature]
    parts += [generic_text(name, kinds, kind) for name, kinds, kind in generics]
    parts += [definition_text(found.store, definition) for definition in found.definitions]
    return "; ".join(parts)


def use_text(program, use):
    """The text of a use of a program."""
    found = wanted_program(program)
    node = wanted_use(found, use)
    heads = [found.store.heads[inner] for inner in found.store.inside((node,))]
    if any([not isinstance(head, str) and head[1] > MOST_STRANGER for head in heads]):
        raise BadValue("use")
    return term_texts(found.store, (node,))[0]
