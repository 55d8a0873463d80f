"""Points 174 to 185, read plainly: slow, for small things only, and apart from the program."""

from closestfit.clear import is_clear
from closestfit.patterns import is_pattern
from tests import plain_programs
from tests.plain_programs import accepts_done, is_use, kinds_of, names_of, patterns_of


class Refused(Exception):
    """BadValue, NotPossible or TooLarge, by the word that it has."""


def is_command(program, value):
    """Point 175."""
    if not isinstance(value, tuple) or not value or not isinstance(value[0], str):
        return False
    if value[0] == "define" and len(value) == 2:
        return plain_programs.is_program((program[0], program[1], (value[1],)))
    if value[0] == "ask" and len(value) == 2:
        return is_use(program, value[1])
    return (value[0] == "drop" and len(value) == 3 and isinstance(value[1], str) and value[1] in names_of(program)
            and is_pattern(program[0], kinds_of(program, value[1]), value[2]))


def reasons(program, asked, many, command):
    """All reasons against a command, the first one first."""
    definitions = program[2]
    word, what = command[0], command[1]
    heads = [row[:2] for row in definitions]
    found = []
    if word == "define" and what[:2] in heads:
        found.append("alike")
    if word == "drop" and command[1:] not in heads:
        found.append("missing")
    if word == "ask" and what in asked:
        found.append("asked")
    if word == "define" and (len(definitions) == 16 or len(patterns_of(program, what[0])) == 12):
        found.append("many")
    if word == "ask" and len(asked) == 6:
        found.append("many")
    if many == 20:
        found.append("full")
    return found


def carried_out(program, asked, command):
    """The definitions and the asked uses behind a command."""
    word, what = command[0], command[1]
    definitions = program[2]
    if word == "define":
        definitions = (*definitions, what)
    if word == "drop":
        definitions = tuple(row for row in definitions if (row[0], row[1]) != (what, command[2]))
    if word == "ask":
        asked = (*asked, what)
    return (program[0], program[1], definitions), asked


class PlainDesk:
    def __init__(self, signature, generics, journal=()):
        self.program = (signature, generics, ())
        self.asked = ()
        self.kept = {}
        self.journal = []
        self.records = []
        for command in journal:
            self.act(command)

    def act(self, command):
        if not is_command(self.program, command):
            raise Refused("command")
        against = reasons(self.program, self.asked, len(self.journal), command)
        if against:
            raise Refused(against[0])
        program, asked = carried_out(self.program, self.asked, command)
        kept, fresh = {}, []
        for number, use in enumerate(asked):
            if use in self.kept and accepts_done(program, use, self.kept[use]):
                kept[use] = self.kept[use]
                continue
            told = plain_programs.done(program, use)
            if isinstance(told, str):
                raise Refused(told)
            kept[use] = told
            fresh.append((number, told))
        self.program, self.asked, self.kept = program, asked, kept
        self.journal.append(command)
        self.records.append((command, tuple(fresh)))
        return tuple(asked[number] for number, _ in fresh)

    def undone(self):
        """The desk without the last command."""
        return PlainDesk(*self.program[:2], self.journal[:-1])

    def answer(self, use):
        told = self.kept[use]
        return ("value", told[1][-1][2]) if told[0] == "value" else (told[0], told[2], told[3])

    def word(self, name):
        return "clear" if is_clear(self.program[0], kinds_of(self.program, name), patterns_of(self.program, name)) else "two"


def are_right(signature, generics, records):
    """Point 182."""
    if not isinstance(records, tuple) or len(records) > 20:
        return False
    program, asked, kept = (signature, generics, ()), (), {}
    for number, record in enumerate(records):
        if not isinstance(record, tuple) or len(record) != 2:
            return False
        command, fresh = record
        if not is_command(program, command) or reasons(program, asked, number, command):
            return False
        program, asked = carried_out(program, asked, command)
        if not isinstance(fresh, tuple) or not all(isinstance(pair, tuple) and len(pair) == 2 for pair in fresh):
            return False
        numbers = [at for at, _ in fresh]
        if not all(type(at) is int and 0 <= at < len(asked) for at in numbers) or numbers != sorted(set(numbers)):
            return False
        kept.update({asked[at]: value for at, value in fresh})
        if not all(use in kept and accepts_done(program, use, kept[use]) for use in asked):
            return False
    return True
