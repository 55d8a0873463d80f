"""The meet of two cases of nodes of a store, and evidence about it."""

from closestfit.equating import Equating
from closestfit.equations import MOST_IN_MEET
from closestfit.errors import TooLarge


def raised(store, kinds, one, other):
    """The other case with its variables raised above those of the one."""
    by = store.greatest_in(one) + 1
    found = store.variables(kinds, other)
    return store.instance(other, {number: store.put(number + by, ()) for number in found})


def meet_nodes(store, kinds, one, other):
    """The numbered meet, however large it is; None if they do not meet."""
    meet = Equating(store, one, raised(store, kinds, one, other)).meet()
    return None if meet is None else store.numbered(kinds, meet)


def small_meet(store, kinds, one, other):
    """The numbered meet, or None; raises TooLarge if it has more than 60 places."""
    meet = meet_nodes(store, kinds, one, other)
    if meet is not None and store.places(meet) > MOST_IN_MEET:
        raise TooLarge("terms")
    return meet


def told_meet_evidence(store, kinds, one, other):
    """Evidence that the two cases meet, or that they do not; raises TooLarge like small_meet."""
    equating = Equating(store, one, raised(store, kinds, one, other))
    meet = equating.meet()
    if meet is None:
        ring = equating.ring() if equating.agrees else ()
        return ("apart", written_rows(store, equating), ring)
    if store.places(meet) > MOST_IN_MEET:
        raise TooLarge("terms")
    solved = equating.solved()
    return ("meet", store.write(store.numbered(kinds, meet)), written_rows(store, equating), solved)


def written_rows(store, equating):
    return tuple([(*store.write((left, right)), reason) for left, right, reason in equating.rows])
