"""Tables with large meets, large trees and large values, for tests of several chapters."""

import itertools

from tests import plain_cases
from tests.samples import chain

INT = ("int",)
NIL = ("nil",)
SIX = (0,) * 6


def meeting_in(many):
    """Two patterns of six terms whose meet has 60 or 61 places."""
    return (0, 0, 0, 0, 0, chain("ptr", many - 56, 1)), (chain("ptr", 10, 0), 1, 2, 3, 4, 5)


def split_tree(many):
    """A tree for (next(0)) or (0) with so many leaves by the number 0, and one more for each further split."""
    tree = ("by", 0)
    for number in range(many - 1, 0, -1):
        tree = ("split", number - 1, (("by", 0), tree))
    return tree


def leaves_of(tree):
    return [tree] if tree[0] == "by" else [leaf for inner in tree[2] for leaf in leaves_of(inner)]


FORKS = (("closed", (("fork", (0, 0)), ("nil", ()), ("wrap", (0,)))),)


def fork_path(steps, last=NIL):
    """A term with forks along the way, nil or something else at its end, and other variables beside."""
    numbers = itertools.count(1)
    parts = []
    for here in steps:
        parts.append(("fork", None, "aside") if here == "L" else ("fork", "aside", None))
    term = last
    for part in parts[::-1]:
        term = tuple(term if item is None else item for item in part)

    def counted(term):
        if term == "aside":
            return next(numbers)
        if isinstance(term, int):
            return term
        return (term[0], *[counted(part) for part in term[1:]])
    return counted(term)


PATHS = ("LLLLLLL", "RLLLLLL", "LRLLLLL", "RRLLLLL", "LLRLLLL", "LRRLLLL", "RLRL")


def great_value(wraps):
    """A table whose pattern 0 is chosen at told values of 399 places and one for each wrap."""
    term = 0
    for _ in range(4):
        term = ("fork", 0, term)
    return FORKS, (0, 0), ((chain("wrap", wraps, term), 0), *[(0, fork_path(steps)) for steps in PATHS])


DEEP_PATHS = ("LLLLLL", "RLLLLL", "LRLLLL", "RRLLLL", "LLRLLL", "LRRLLL", "RLRLLL", "RRRLLL", "LLLRLL", "LLRRLL")


def great_gap(*last_paths):
    """A table of one kind that leaves a value with a fork for each different place on the paths.

    All forks end in values of seven places; with the last paths LRLRL and
    LRRRL the value has 399 places, and with each further fork eight more.
    """
    signature = (("closed", (("fork", (0, 0)), ("deep", (1, 1)))), ("closed", (("bb", (2, 2)),)), ("closed", (("cc", ()),)))
    terms = [fork_path(steps, ("deep", 100, 101)) for steps in (*DEEP_PATHS, *last_paths)]
    return signature, (0,), tuple(plain_cases.numbered((term,)) for term in terms)


def boxed_pigeons(special):
    """A table whose first two patterns meet in a case with 33 leaves wherever no special pattern says what is chosen.

    The two ask for nothing but a constructor that always is there, with a
    letter of four and one of three in it. The last four terms are letters of
    three, so two of them are equal. The patterns behind the two are below both.
    """
    signature = (("closed", (("xa", ()), ("xb", ()), ("xc", ()))),
                 ("closed", (("wa", ()), ("wb", ()), ("wc", ()), ("wd", ()))), ("closed", (("vv", (1, 0)),)))
    rows = [(("vv", 0, 1), 2, 3, 4, 5, 6), (0, ("vv", 1, 2), 3, 4, 5, 6)]
    rows += [(("vv", (more[0],) if more else 7, (one,)), ("vv", (other,), 8), 0, 1, 2, 3) for one, other, *more in special]
    for i, j in itertools.combinations(range(4), 2):
        last = [2, 3, 4, 5]
        last[j] = last[i]
        rows.append((("vv", 7, 8), ("vv", 9, 10), *last))
    return signature, (2, 2, 0, 0, 0, 0), tuple(plain_cases.numbered(row) for row in rows)


# With these the tree for the meet of the first two patterns has 300 leaves, with the further one more.
SPECIAL = (("xa", "wa"), ("xb", "wb"), ("xc", "wd"))
MORE_SPECIAL = (*SPECIAL, ("xa", "wb", "wa"))


# The next tables have patterns of at most twelve places, so they can be tables of generics.

LETTERS = (("closed", (("la", ()), ("lb", ()))), ("closed", (("wa", (1,)), ("wb", (1,)), ("wc", (1,)), ("wn", ()))),
           ("closed", (("pp", (0, 0)),)))
LETTER_KINDS = (2, 2, 1)
PIGEONS = ((("pp", 0, 0), 1, 2), (("pp", 0, 1), ("pp", 0, 2), 3), (("pp", 0, 1), ("pp", 1, 2), 3))
# The tree by which these cover the case (0, 1, 2) has so many leaves.
LEAVES = {
    300: (*PIGEONS, (0, 1, chain("wa", 8, ("wn",))), (0, 1, ("wb", chain("wa", 7, ("wn",)))),
          (0, ("pp", ("lb",), ("la",)), ("wb", chain("wa", 3, ("wn",)))), (("pp", 0, ("lb",)), 1, ("wa", ("wn",))),
          (("pp", 0, 1), ("pp", ("lb",), 2), chain("wa", 4, ("wn",))), (("pp", 0, 1), 2, chain("wa", 4, ("wn",)))),
    301: (*PIGEONS, (0, 1, chain("wa", 8, ("wn",))), (("pp", 0, 0), ("pp", ("la",), ("la",)), ("wb", chain("wa", 3, ("wn",)))),
          (0, ("pp", ("lb",), ("la",)), chain("wa", 2, 1))),
}

PAIRS = ((("pp", 0, 0), ("pp", 1, 2), 3), (("pp", 0, 1), ("pp", 0, 2), 3), (("pp", 0, 1), ("pp", 1, 2), 3))
# The tree for the meet of the first two of these has so many leaves; the others are below both.
QUARRELS = {
    300: ((("pp", 0, 1), 2, 3), (0, ("pp", 1, 2), 3), *PAIRS,
          (("pp", 0, 1), ("pp", 1, 2), chain("wa", 3, ("wb", chain("wa", 1, ("wn",))))),
          (("pp", 0, 1), ("pp", 0, ("la",)), ("wb", chain("wa", 2, ("wb", ("wn",)))))),
    301: ((("pp", 0, 1), 2, 3), (0, ("pp", 1, 2), 3), *PAIRS, (("pp", 0, 1), ("pp", 2, 3), chain("wa", 4, ("wb", ("wn",)))),
          (("pp", 0, 1), ("pp", 2, 3), chain("wa", 3, chain("wb", 2, 4))),
          (("pp", 0, ("lb",)), ("pp", 1, ("lb",)), ("wa", ("wb", ("wn",)))),
          (("pp", 0, 1), ("pp", 0, 2), chain("wb", 2, chain("wa", 2, ("wn",))))),
}

HEAPS = (("closed", (("fork", (0, 0)), ("deep", (1, 1)), ("wrap", (0,)))), ("closed", (("bb", (2, 2)),)),
         ("closed", (("cc", ()),)))


def great_heaps(wraps):
    """A table whose pattern 0 is chosen at told values of 399 places and one for each wrap."""
    steps = ("LLL", "LLR", "LRL", "LRR", "RLL", "RLR", "RRL", "RRR")
    paths = [fork_path(step + "L", ("deep", 100, 101)) for step in steps] + [fork_path("RRRR", ("deep", 100, 101))]
    return HEAPS, (0, 0), ((chain("wrap", wraps, ("fork", 0, 0)), 0), *[plain_cases.numbered((0, path)) for path in paths])
