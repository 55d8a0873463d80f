"""A store of terms and values, in which equal ones are the same node.

Each node has a head and the nodes of its parts (see flat.py for the heads).
Parts have lesser numbers than the whole, so nodes in ascending order are
built from the parts upwards, without recursion; and a term with very many
places can have few nodes.
"""

from closestfit.forms import is_integer, is_tuple_of
from closestfit.flat import arity


class Terms:
    """The store, for one signature."""

    def __init__(self, shapes):
        self.shapes = shapes
        self.heads = []
        self.parts = []
        self.sizes = []
        # The greatest variable in a node, -1 if there is none.
        self.greatest = []
        # The least number that is greater than those of all strangers in a node.
        self.free = []
        self._nodes = {}

    def put(self, head, parts):
        """The node with this head and these parts."""
        key = (head, parts)
        if key not in self._nodes:
            self._nodes[key] = len(self.heads)
            self.heads.append(head)
            self.parts.append(parts)
            self.sizes.append(1 + sum([self.sizes[part] for part in parts]))
            variable = head if isinstance(head, int) else -1
            self.greatest.append(max([self.greatest[part] for part in parts], default=variable))
            free = head[1] + 1 if isinstance(head, tuple) else 0
            self.free.append(max([self.free[part] for part in parts], default=free))
        return self._nodes[key]

    def load(self, rows):
        """The nodes of the terms with these rows."""
        return self.load_by(self.shapes, rows)

    def load_by(self, shapes, rows):
        """The same, where these shapes tell how many parts each head has."""
        done = []
        for _, head in rows[::-1]:
            parts = tuple([done.pop() for _ in range(arity(shapes, head))])
            done.append(self.put(head, parts))
        return tuple(done[::-1])

    def load_values(self, rows_of_values):
        """The nodes of values, each of which has rows of its own."""
        return tuple([self.load(rows)[0] for rows in rows_of_values])

    def is_made(self, node):
        """Whether a constructor is outermost."""
        return isinstance(self.heads[node], str)

    def is_variable(self, node):
        return isinstance(self.heads[node], int)

    def inside(self, roots):
        """All nodes in the roots, in ascending order."""
        seen = {}
        waiting = list(roots)
        while waiting:
            node = waiting.pop()
            if node not in seen:
                seen[node] = True
                waiting += self.parts[node]
        return sorted(seen)

    def places(self, roots):
        return sum([self.sizes[root] for root in roots])

    def greatest_in(self, roots):
        return max([self.greatest[root] for root in roots])

    def free_in(self, roots):
        return max([self.free[root] for root in roots])

    def write(self, roots):
        """The tuple of the terms."""
        done = {}
        for node in self.inside(roots):
            head = self.heads[node]
            done[node] = (head, *[done[part] for part in self.parts[node]]) if isinstance(head, str) else head
        return tuple([done[root] for root in roots])

    def instance(self, roots, put):
        """The roots with nodes put for some of their variables, all at once."""
        done = {}
        for node in self.inside(roots):
            head = self.heads[node]
            if self.greatest[node] < 0:
                done[node] = node
            elif isinstance(head, int):
                done[node] = put.get(head, node)
            else:
                done[node] = self.put(head, tuple([done[part] for part in self.parts[node]]))
        return tuple([done[root] for root in roots])

    def variables(self, kinds, roots):
        """The variables of the roots with their kinds, in the order in which they first stand there."""
        found = {}
        seen = {}
        waiting = list(zip(kinds, roots))[::-1]
        while waiting:
            kind, node = waiting.pop()
            if node in seen or self.greatest[node] < 0:
                continue
            seen[node] = True
            head = self.heads[node]
            if isinstance(head, int):
                found[head] = kind
            else:
                waiting += list(zip(self.shapes.parts[head], self.parts[node]))[::-1]
        return found

    def numbered(self, kinds, roots):
        """The roots with the variables 0, 1, .. in the order in which they first stand there."""
        found = self.variables(kinds, roots)
        return self.instance(roots, {number: self.put(i, ()) for i, number in enumerate(found)})

    def same(self, node, term):
        """Whether the term, which can be whatever is judged, is the one of the node."""
        waiting = [(node, term)]
        while waiting:
            node, term = waiting.pop()
            head = self.heads[node]
            if isinstance(head, int):
                right = is_integer(term) and term == head
            elif isinstance(head, str):
                many = len(self.parts[node]) + 1
                right = is_tuple_of(term, many, many) and isinstance(term[0], str) and term[0] == head
            else:
                right = is_stranger(term) and term == head
            if not right:
                return False
            if isinstance(head, str):
                waiting += list(zip(self.parts[node], term[1:]))
        return True

    def are_same(self, nodes, terms):
        """Whether this is the tuple of the terms of these nodes."""
        if not is_tuple_of(terms, len(nodes), len(nodes)):
            return False
        return all([self.same(node, term) for node, term in zip(nodes, terms)])


def is_stranger(term):
    return is_tuple_of(term, 2, 2) and isinstance(term[0], str) and is_integer(term[1])
