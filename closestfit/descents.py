"""The facts that hold in a flat program, its edges, and the rings of edges."""

from closestfit.heads import by_heads, is_fact


class Descents:
    """The facts that hold and the edges; each one is told by its claim, a path, and facts one after another."""

    def __init__(self, heads):
        self.heads = heads
        # For each fact its path and its way: facts that were found before it.
        self.found = {}
        self._find_facts()
        self.facts = by_heads(self.found)
        self.edges = {}
        for head in heads.order:
            for claim, path, way in heads.claims_at(self.facts, head):
                if not is_fact(claim):
                    self.edges.setdefault(claim, (path, way))
        self.levels = levels_by(heads.order, self.edges)

    def _find_facts(self):
        many = -1
        while len(self.found) > many:
            many = len(self.found)
            for head in self.heads.order:
                claims = self.heads.claims_at(by_heads(self.found), head)
                for claim, path, way in claims:
                    if is_fact(claim):
                        self.found.setdefault(claim, (path, way))

    def ordered_facts(self):
        """The facts by their heads, then by the generic, then by the index."""
        names = self.heads.program.names
        place = self.heads.place
        return tuple(sorted(self.found, key=lambda fact: (place[fact[:2]], names.index(fact[2]), fact[3])))

    def ordered_edges(self):
        place = self.heads.place
        return tuple(sorted(self.edges, key=lambda edge: (place[edge[:2]], place[edge[2:]])))

    def ends(self):
        """Whether no edges make a ring."""
        return len(self.levels) == len(self.heads.order)

    def reached(self, starts):
        """These heads and all to which rows of edges lead from them, in order."""
        found = {head: True for head in starts}
        # Each round goes one edge further, and no row without a ring has more.
        for _ in self.heads.order:
            further = [edge[2:] for edge in self.edges if edge[:2] in found]
            for head in further:
                found[head] = True
        return [head for head in self.heads.order if head in found]

    def fall(self, heads):
        return tuple([(head, self.levels[head]) for head in heads])

    def way_to_ring(self, head):
        """Edges from a head that leads to a ring, until one ends where one of them begins."""
        way = []
        while head not in [edge[:2] for edge in way]:
            edge = [edge for edge in self.edges if edge[:2] == head and edge[2:] not in self.levels][0]
            way.append(edge)
            head = edge[2:]
        return way

    def lines(self, edges):
        """Lines for all facts and for these edges, and the number of each claim."""
        told = [(claim, *self.found[claim]) for claim in self.found]
        told += [(claim, *self.edges[claim]) for claim in edges]
        number = {claim: i for i, (claim, _, _) in enumerate(told)}
        lines = [(claim, path, tuple([number[fact] for fact in way])) for claim, path, way in told]
        return tuple(lines), number


def levels_by(order, edges):
    """For each head that leads to no ring the greatest number of edges in a row that begins with it."""
    levels = {}
    many = -1
    while len(levels) > many:
        many = len(levels)
        for head in order:
            further = [edge[2:] for edge in edges if edge[:2] == head]
            if head not in levels and all([far in levels for far in further]):
                levels[head] = max([levels[far] + 1 for far in further], default=0)
    return levels
