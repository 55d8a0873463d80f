"""Two cases are made the same: the meet, or why there is none, with all rows on the way.

Terms that become the same are in one class. The root of a class is a term
with a constructor, if the class has one. Each joining of two classes is noted
as a link between the two sides of its row, so there is exactly one way of
links from each term of a class to each other one: the rows of a chain.
"""


class Equating:
    """What follows if two cases, of nodes of a store, become the same."""

    def __init__(self, store, one, other):
        self.store = store
        self.one = one
        self.other = other
        # Triples of left, right and reason.
        self.rows = []
        self._row_of = {}
        self._up = {}
        self._links = {}
        self.agrees = self._settle()
        self.becomes = self._resolved() if self.agrees else {}

    def root(self, node):
        """The root of the class of the node."""
        while node in self._up:
            node = self._up[node]
        return node

    def _note(self, left, right, reason):
        """The index of a new row."""
        self.rows.append((left, right, reason))
        self._row_of[(left, right)] = len(self.rows) - 1
        return len(self.rows) - 1

    def _settle(self):
        """Joins classes as long as something follows; False if two constructors differ."""
        store = self.store
        pairs = list(zip(self.one, self.other))
        waiting = [(left, right, ("given", i)) for i, (left, right) in enumerate(pairs)][::-1]
        while waiting:
            left, right, reason = waiting.pop()
            near, far = self.root(left), self.root(right)
            if near == far:
                continue
            self._join(left, right, self._note(left, right, reason))
            if store.is_made(near) and store.is_made(far):
                row = self.derived(near, far)
                if store.heads[near] != store.heads[far]:
                    return False
                pairs = list(zip(store.parts[near], store.parts[far]))
                waiting += [(one, other, ("part", row, k)) for k, (one, other) in enumerate(pairs)][::-1]
        return True

    def _join(self, left, right, row):
        self._links.setdefault(left, []).append((right, row))
        self._links.setdefault(right, []).append((left, row))
        near, far = self.root(left), self.root(right)
        if self.store.is_variable(near):
            self._up[near] = far
        else:
            self._up[far] = near

    def derived(self, left, right):
        """The index of a row with these two sides, which are of one class and not the same."""
        if (left, right) not in self._row_of:
            self._note(left, right, ("chain", self._chain(left, right)))
        return self._row_of[(left, right)]

    def _chain(self, left, right):
        """The indexes of the rows that lead from left to right."""
        came = {left: None}
        waiting = [left]
        while right not in came:
            near = waiting.pop()
            for far, row in self._links[near]:
                if far not in came:
                    came[far] = (near, row)
                    waiting.append(far)
        chain = []
        while right != left:
            right, row = came[right]
            chain.append(row)
        return tuple(chain[::-1])

    def roots(self):
        return sorted({self.root(node): True for node in self.store.inside((*self.one, *self.other))})

    def _parts_of(self, root):
        return [self.root(part) for part in self.store.parts[root]]

    def _resolved(self):
        """What each class becomes, parts before wholes; some are missing if one would be a part of itself."""
        done = {}
        missing = self.roots()
        many = -1
        while len(done) > many:
            many = len(done)
            for root in missing:
                parts = self._parts_of(root)
                if all([part in done for part in parts]):
                    head = self.store.heads[root]
                    done[root] = self.store.put(head, tuple([done[part] for part in parts]))
            missing = [root for root in missing if root not in done]
        return done

    def meet(self):
        """The nodes that both cases become, or None if they cannot."""
        if not self.agrees or len(self.becomes) < len(self.roots()):
            return None
        return tuple([self.becomes[self.root(node)] for node in self.one])

    def ring(self):
        """The indexes of rows, each with the left side of the next one as a proper part of its right side."""
        node = [root for root in self.roots() if root not in self.becomes][0]
        passed = {}
        way = []
        while node not in passed:
            passed[node] = len(way)
            part = [part for part in self.store.parts[node] if self.root(part) not in self.becomes][0]
            way.append(part)
            node = self.root(part)
        # Where a part is itself the root there is nothing to say: what stands in it stands in the whole, too.
        steps = [part for part in way[passed[node]:] if part != self.root(part)]
        return tuple([self.derived(part, self.root(part)) for part in steps])

    def solved(self):
        """The indexes of rows that put for each variable what it becomes, wholes before their parts."""
        members = {}
        for node in self.store.inside((*self.one, *self.other)):
            if self.store.is_variable(node) and node != self.root(node):
                members.setdefault(self.root(node), []).append(node)
        order = list(self.becomes)[::-1]
        return tuple([self.derived(node, root) for root in order for node in members.get(root, [])])
