"""A desk, at which definitions are put in and taken out while uses are asked."""

from closestfit.clearing import found_clear
from closestfit.commands import MOST_COMMANDS, new_stand
from closestfit.doing import Doing
from closestfit.errors import BadValue, NotPossible


class Desk:
    """A desk.

    `_stands` has what stood on it at first and behind each command in the
    journal, so the last one is what stands on it now.
    """

    def __init__(self, signature, generics):
        self._signature = signature
        self._generics = generics
        self._stands = [new_stand(signature, generics)]
        # For each command in the journal the record of it.
        self._told = []

    def act(self, command):
        """Carries out the command, and returns the uses that are done anew."""
        now = self._stands[-1]
        if not now.is_command(command):
            raise BadValue("command")
        reason = now.reason_against(command)
        if not reason and len(self._told) == MOST_COMMANDS:
            reason = "full"
        if reason:
            raise NotPossible(reason)
        stand = now.behind(command)
        fresh = done_anew(stand)
        stand.take_up(fresh)
        self._stands.append(stand)
        self._told.append((command, fresh))
        return tuple([stand.asked[number] for number, _ in fresh])

    def undo(self):
        """Undoes the last command, and returns it; None if there is none."""
        if not self._told:
            return None
        self._stands.pop()
        command, _ = self._told.pop()
        return command

    def program(self):
        """The present program."""
        return self._signature, self._generics, self._stands[-1].definitions

    def asked(self):
        """The tuple of the asked uses."""
        return self._stands[-1].asked

    def journal(self):
        """The tuple of the commands in the journal."""
        return tuple([command for command, _ in self._told])

    def answer(self, use):
        """The answer to an asked use."""
        kept = self.evidence(use)
        if kept[0] == "value":
            return ("value", kept[1][-1][2])
        return (kept[0], kept[2], kept[3])

    def evidence(self, use):
        """The evidence that is kept for an asked use."""
        now = self._stands[-1]
        if now.use_node(use) is None:
            raise BadValue("use")
        if use not in now.asked:
            raise NotPossible("missing")
        return now.evidence[now.asked.index(use)]

    def word(self, name):
        """The word "clear" if the table of the generic is clear, otherwise "two"."""
        now = self._stands[-1]
        if not now.is_name(name):
            raise BadValue("name")
        program = now.program
        return found_clear(program.store, program.parameters[name], program.tables[name])[0]

    def records(self):
        """The tuple of the records of the commands in the journal."""
        return tuple(self._told)

    def twin(self):
        """A desk with the same signature, generics and journal."""
        other = Desk(self._signature, self._generics)
        other._stands = list(self._stands)
        other._told = list(self._told)
        return other


def done_anew(stand):
    """The pairs of number and told evidence of the uses whose evidence does not stay."""
    fresh = []
    for number, use in enumerate(stand.asked):
        if number == len(stand.evidence) or not stand.accepts(number, stand.evidence[number]):
            fresh.append((number, Doing(stand.program, stand.use_node(use)).told_evidence()))
    return tuple(fresh)
