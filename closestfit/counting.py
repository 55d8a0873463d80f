"""Numbers of values, and the values of a kind one after another."""


class Counts:
    """Counts the values made by some constructors and by some strangers.

    For each kind, `constructors` has pairs (name, parts) in order, and
    `strangers` says how many strangers it has. All numbers for one number of
    places are found together, from the least number on.
    """

    def __init__(self, constructors, strangers):
        self.constructors = constructors
        self.strangers = strangers
        self.parts = {name: parts for row in constructors for name, parts in row}
        self._numbers = [[0] for _ in constructors]

    def number(self, kind, size):
        """How many values of the kind have so many places."""
        while len(self._numbers[0]) <= size:
            self._go_on()
        return self._numbers[kind][size]

    def _go_on(self):
        size = len(self._numbers[0])
        kinds = range(len(self.constructors))
        found = [sum([self.made(parts, size) for _, parts in self.constructors[kind]]) for kind in kinds]
        for kind in kinds:
            leaves = self.strangers[kind] if size == 1 else 0
            self._numbers[kind].append(found[kind] + leaves)

    def made(self, parts, size):
        """How many values a constructor with these parts makes with so many places."""
        if not parts:
            return 1 if size == 1 else 0
        if len(parts) == 1:
            return self.number(parts[0], size - 1)
        left, right = parts
        return sum([self.number(left, i) * self.number(right, size - 1 - i) for i in range(1, size - 1)])

    def position(self, rows):
        """The number of values that come before the value with these rows."""
        done = []
        for kind, head in rows[::-1]:
            many = len(self.parts[head]) if isinstance(head, str) else 0
            parts = [done.pop() for _ in range(many)]
            size = 1 + sum([part_size for part_size, _ in parts])
            done.append((size, self._rank(kind, head, size, parts)))
        size, rank = done[0]
        return sum([self.number(rows[0][0], less) for less in range(1, size)]) + rank

    def _rank(self, kind, head, size, parts):
        """The number of values with as many places that come before; parts are pairs of size and rank."""
        rank = 0
        for name, kinds in self.constructors[kind]:
            if name == head:
                return rank + self._rank_of_parts(kinds, size, parts)
            rank += self.made(kinds, size)
        return rank + head[1]

    def _rank_of_parts(self, kinds, size, parts):
        if not parts:
            return 0
        if len(parts) == 1:
            return parts[0][1]
        (left_size, left_rank), (right_size, right_rank) = parts
        left, right = kinds
        before = sum([self.number(left, i) * self.number(right, size - 1 - i) for i in range(1, left_size)])
        return before + left_rank * self.number(right, right_size) + right_rank

    def value(self, kind, index, most):
        """The rows of the value with this index; None if it has more than so many places."""
        for size in range(1, most + 1):
            many = self.number(kind, size)
            if index < many:
                return self._ranked(kind, size, index)
            index -= many
        return None

    def _ranked(self, kind, size, rank):
        rows = []
        waiting = [(kind, size, rank)]
        while waiting:
            kind, size, rank = waiting.pop()
            head, parts = self._chosen(kind, size, rank)
            rows.append((kind, head))
            waiting += parts[::-1]
        return rows

    def _chosen(self, kind, size, rank):
        """The head of the value with this rank, and its parts as triples of kind, size and rank."""
        for name, kinds in self.constructors[kind]:
            many = self.made(kinds, size)
            if rank < many:
                return name, self._chosen_parts(kinds, size, rank)
            rank -= many
        return ("#", rank), []

    def _chosen_parts(self, kinds, size, rank):
        if not kinds:
            return []
        if len(kinds) == 1:
            return [(kinds[0], size - 1, rank)]
        left, right = kinds
        left_size = 1
        while rank >= self.number(left, left_size) * self.number(right, size - 1 - left_size):
            rank -= self.number(left, left_size) * self.number(right, size - 1 - left_size)
            left_size += 1
        right_size = size - 1 - left_size
        left_rank, right_rank = divmod(rank, self.number(right, right_size))
        return [(left, left_size, left_rank), (right, right_size, right_rank)]


def counts_below(shapes, strangers):
    """Counts the values below so many strangers."""
    return Counts(shapes.constructors, [strangers if is_open else 0 for is_open in shapes.is_open])
