"""Two sides of one question about integers, of which one always has an answer.

Either there are weights, none below 0, by which no row weighs less than 0 and
the goal weighs more; or there are counts, none below 0 and that of the goal
above 0, with which the rows and the goal add up to nothing above 0.

The search is the simplex method. Its tableau has integers with one divisor in
common, so each division is exact. Always the first column is taken that gains
something, so the search does not go round.
"""


class Tableau:
    """Looks for counts: for each part of the goal a line, with a slack or, if it does not begin so, a gap."""

    def __init__(self, rows, goal):
        many = len(rows)
        self.many = many
        self.size = many + len(goal)
        self.divisor = 1
        self.grid = []
        # Which column each line stands for; those of gaps are behind all others, and are not kept.
        self.basis = []
        for p, part in enumerate(goal):
            line = [row[p] for row in rows] + [1 if p == other else 0 for other in range(len(goal))] + [-part]
            self.basis.append(many + p if part <= 0 else self.size + p)
            self.grid.append(line if part <= 0 else [-item for item in line])
        gaps = [line for line, column in zip(self.grid, self.basis) if column >= self.size]
        # What still lacks to the counts, below 0, at the end; and what each column gains.
        self.last = [-sum([line[column] for line in gaps]) for column in range(self.size + 1)]
        self._search()

    def _search(self):
        column = self._gaining()
        while column is not None:
            self._turn(self._leaving(column), column)
            column = self._gaining()

    def _gaining(self):
        found = [column for column in range(self.size) if self.last[column] < 0]
        return found[0] if found else None

    def _leaving(self, column):
        """The line that bounds the column first; of several the one with the first column."""
        best = None
        for place, line in enumerate(self.grid):
            if line[column] > 0 and (best is None or self._is_ahead(place, best, column)):
                best = place
        return best

    def _is_ahead(self, place, other, column):
        near = self.grid[place][-1] * self.grid[other][column]
        far = self.grid[other][-1] * self.grid[place][column]
        return near < far or (near == far and self.basis[place] < self.basis[other])

    def _turn(self, place, column):
        """The column takes the place of the line's own one."""
        line = self.grid[place]
        lines = [other if at == place else self._without(other, line, column) for at, other in enumerate(self.grid)]
        self.last = self._without(self.last, line, column)
        self.grid = lines
        self.divisor = line[column]
        self.basis[place] = column

    def _without(self, other, line, column):
        by = line[column]
        times = other[column]
        return [(item * by - times * part) // self.divisor for item, part in zip(other, line)]

    def weights(self):
        """The weights, or None if there are counts."""
        return None if self.last[-1] == 0 else self.last[self.many:self.size]

    def counts(self):
        """The counts of the rows, and behind them that of the goal, if there are no weights."""
        found = [0 for _ in range(self.many)]
        for line, column in zip(self.grid, self.basis):
            if column < self.many:
                found[column] = line[-1]
        return [*found, self.divisor]
