"""Commands of a desk, and what stands behind them."""

from closestfit.cases import read_pattern
from closestfit.definitions import (MOST_DEFINITIONS, MOST_IN_ARGUMENT, MOST_OF_ONE, are_generics, read_definition,
                                    read_program, read_use)
from closestfit.errors import BadValue
from closestfit.forms import has_word
from closestfit.rows import shows_done
from closestfit.signatures import is_signature_form
from closestfit.wanting import MOST_ASKED

MOST_COMMANDS = 20


class Stand:
    """The definitions and the asked uses of a desk, with one piece of evidence for each of these uses.

    The program is the present one, as it is read.
    """

    def __init__(self, signature, generics, definitions, asked, evidence):
        self.signature = signature
        self.generics = generics
        self.definitions = definitions
        self.asked = asked
        self.evidence = evidence
        self.program = read_program((signature, generics, definitions))

    def is_command(self, value):
        """Whether the value is a command."""
        if has_word(value, "define", 2):
            return read_definition(self.program, value[1]) is not None
        if has_word(value, "ask", 2):
            return self.use_node(value[1]) is not None
        return has_word(value, "drop", 3) and self.is_name(value[1]) and self.is_pattern_of(value[1], value[2])

    def is_name(self, value):
        """Whether the value is the name of a generic."""
        return isinstance(value, str) and value in self.program.parameters

    def is_pattern_of(self, name, value):
        return read_pattern(self.program.shapes, self.program.parameters[name], value) is not None

    def use_node(self, use):
        """The node of a use of the program, or None."""
        return read_use(self.program, use, MOST_IN_ARGUMENT)

    def reason_against(self, command):
        """Why the command is not possible, apart from what the journal says; empty if it is."""
        if command[0] == "ask":
            if command[1] in self.asked:
                return "asked"
            return "many" if len(self.asked) == MOST_ASKED else ""
        if command[0] == "drop":
            return "" if self.has_definition(command[1], command[2]) else "missing"
        name, pattern, _ = command[1]
        if self.has_definition(name, pattern):
            return "alike"
        many = len(self.definitions) == MOST_DEFINITIONS or len(self.program.numbers[name]) == MOST_OF_ONE
        return "many" if many else ""

    def has_definition(self, name, pattern):
        return any([other == name and known == pattern for other, known, _ in self.definitions])

    def behind(self, command):
        """What stands behind a command that is possible, without the evidence for a use that is newly asked."""
        definitions, asked = self.definitions, self.asked
        if command[0] == "define":
            definitions = (*definitions, command[1])
        elif command[0] == "drop":
            definitions = tuple([row for row in definitions if row[:2] != command[1:]])
        else:
            asked = (*asked, command[1])
        return Stand(self.signature, self.generics, definitions, asked, self.evidence)

    def take_up(self, fresh):
        """Keeps the fresh evidence, which is pairs of number and evidence, and what was kept for the other uses."""
        kept = [*self.evidence, *[None for _ in self.asked[len(self.evidence):]]]
        for number, value in fresh:
            kept[number] = value
        self.evidence = tuple(kept)

    def accepts(self, number, value):
        """Whether the value is evidence about the asked use with this number."""
        return shows_done(self.program, self.use_node(self.asked[number]), value)


def new_stand(signature, generics):
    """What stands on a new desk."""
    if not is_signature_form(signature):
        raise BadValue("signature")
    if not are_generics(generics, len(signature)):
        raise BadValue("generics")
    return Stand(signature, generics, (), (), ())
