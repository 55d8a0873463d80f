"""Doing a use: it comes to a value, or meets a trouble."""

from closestfit.checks import MOST_PLACES
from closestfit.errors import TooLarge
from closestfit.steps import walk

MOST_USES = 60


class Doing:
    """A use that is done, with all uses on the way.

    Of the uses that are done, `done` has the values and `order` pairs of use
    and number of a definition, in the order in which they were done. The
    trail has the same pairs of those that are begun and not done. Behind a
    trouble, `trouble` has its word, with "two" and two numbers behind it, and
    `last` the last use.
    """

    def __init__(self, program, use):
        self.program = program
        self.done = {}
        self.order = []
        self.trail = []
        self.many = 0
        self.trouble = ()
        self.last = use
        self._take_up(use)
        while self.trail and not self.trouble:
            self._go_on()

    def _take_up(self, use):
        """A use is to be done that is not done yet."""
        store = self.program.store
        self.last = use
        if any([store.sizes[value] > MOST_PLACES for value in store.parts[use]]):
            raise TooLarge("value")
        if use in [begun for begun, _ in self.trail]:
            self.trouble = ("round",)
            return
        if self.many == MOST_USES:
            raise TooLarge("rows")
        self.many += 1
        found = self.program.choice(use)
        if isinstance(found, int):
            self.trail.append((use, found))
        else:
            self.trouble = ("none",) if found == "none" else found

    def _go_on(self):
        """Takes up the next use in the step of the last one that is begun, or comes to its value."""
        use, number = self.trail[-1]
        word, node = walk(self.program, self.done, use, number)
        if word == "use":
            self._take_up(node)
            return
        if self.program.store.sizes[node] > MOST_PLACES:
            raise TooLarge("value")
        self.done[use] = node
        self.order.append(self.trail.pop())

    def _pattern(self, number):
        return self.program.store.write(self.program.definitions[number].pattern)

    def _use(self, use):
        return self.program.store.write((use,))[0]

    def told_rows(self):
        rows = [(self._use(use), self._pattern(number), self._use(self.done[use])) for use, number in self.order]
        return tuple(rows)

    def told_trouble(self):
        """The trail and the last use, and behind "two" the two patterns."""
        trail = tuple([(self._use(use), self._pattern(number)) for use, number in self.trail])
        return (trail, self._use(self.last), *[self._pattern(number) for number in self.trouble[1:]])

    def told_evidence(self):
        """The told evidence about the use."""
        if self.trouble:
            return (self.trouble[0], self.told_rows(), *self.told_trouble())
        return ("value", self.told_rows())

    def numbers_on_way(self):
        """The numbers of the definitions that the uses in the rows and in the trail choose."""
        return [number for _, number in (*self.order, *self.trail)]
