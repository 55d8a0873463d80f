"""Heads of a flat program, the uses in the bodies at them, and what goes down by facts.

A fact is a tuple (f, c, g, i), an edge a tuple (f, c, h, d); the last item
tells them apart. At a head with a constructor the variables 0 and 1 stand for
its parts; at one with "#" the stranger 0 stands for whatever stranger.
"""

from closestfit.definitions import MOST_IN_ARGUMENT
from closestfit.errors import BadValue
from closestfit.flat import read_value
from closestfit.flatness import want_flat
from closestfit.steps import listed_uses


class Heads:
    """What is looked up in a flat program."""

    def __init__(self, program):
        self.program = program
        self.store = program.store
        self.first_kind = {name: program.parameters[name][0] for name in program.names}
        self.order = [(name, letter) for name in program.names for letter in self._outermost(name)]
        self.place = {head: place for place, head in enumerate(self.order)}
        # The number of the definition whose body is at a head; one with the constructor goes ahead of the lone one.
        self.number_at = {}
        for name in program.names:
            for number in program.numbers[name]:
                self._put_at_heads(name, number)
        # At each head the triples of path, generic and first argument.
        self.uses = {head: self._uses_at(head) for head in self.order}

    def _outermost(self, name):
        kind = self.first_kind[name]
        names = [constructor for constructor, _ in self.program.shapes.constructors[kind]]
        return [*names, "#"] if self.program.shapes.is_open[kind] else names

    def _first(self, number):
        return self.program.definitions[number].pattern[0]

    def _put_at_heads(self, name, number):
        """Puts the body of a definition of the generic with this name at its heads."""
        first = self._first(number)
        if self.store.is_made(first):
            self.number_at[(name, self.store.heads[first])] = number
            return
        for letter in self._outermost(name):
            self.number_at.setdefault((name, letter), number)

    def _uses_at(self, head):
        if head not in self.number_at:
            return []
        number = self.number_at[head]
        put = {} if self.store.is_made(self._first(number)) else {0: self._whole(head[1])}
        found = []
        for path, use in listed_uses(self.program, number):
            first = self.store.parts[use][0]
            found.append((path, self.store.heads[use], self.store.instance((first,), put)[0]))
        return found

    def _whole(self, letter):
        """The constructor with its parts, or the stranger."""
        if letter == "#":
            return self.store.put(("#", 0), ())
        many = len(self.program.shapes.parts[letter])
        return self.store.put(letter, tuple([self.store.put(i, ()) for i in range(many)]))

    def outermost(self, node):
        """The constructor that is outermost, "#" for a stranger, and None for a variable."""
        head = self.store.heads[node]
        if isinstance(head, str):
            return head
        return None if isinstance(head, int) else "#"

    def last_item(self, node):
        """The last item of a claim about what goes down to the node: the index of a part, or what is outermost."""
        return self.store.heads[node] if self.store.is_variable(node) else self.outermost(node)

    def parts_of(self, head):
        """The kinds of the parts of the constructor of a head."""
        return () if head[1] == "#" else self.program.shapes.parts[head[1]]

    def downs(self, facts, generic, node):
        """Each pair of generic and node to which it goes down, with the facts one after another that lead there.

        For each head, `facts` has the list of its facts.
        """
        found = {(generic, node): ()}
        waiting = [(generic, node)]
        while waiting:
            at, below = waiting.pop()
            for fact in facts.get((at, self.outermost(below)), []):
                further = (fact[2], self.store.parts[below][fact[3]])
                if further not in found:
                    found[further] = (*found[(at, below)], fact)
                    waiting.append(further)
        return found

    def claims_at(self, facts, head):
        """The triples of claim, path, and facts one after another, of all that goes down from the uses at the head."""
        found = []
        for path, generic, first in self.uses[head]:
            for (at, below), way in self.downs(facts, generic, first).items():
                found.append(((*head, at, self.last_item(below)), path, way))
        return found


def is_fact(claim):
    return isinstance(claim[3], int)


def by_heads(facts):
    """For each head the list of its facts."""
    found = {}
    for fact in facts:
        found.setdefault(fact[:2], []).append(fact)
    return found


def wanted_heads(program):
    """The heads of a program that must be flat."""
    want_flat(program)
    return Heads(program)


def want_name(program, name):
    if not isinstance(name, str) or name not in program.parameters:
        raise BadValue("name")


def wanted_first(program, name, first):
    """The node of a value of the first kind of a generic."""
    rows = read_value(program.shapes, program.parameters[name][0], first, MOST_IN_ARGUMENT)
    if rows is None:
        raise BadValue("first")
    return program.store.load(rows)[0]
