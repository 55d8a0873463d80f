"""Several uses that are asked at once, each of which must not come to "two"."""

from closestfit.definitions import MOST_IN_ARGUMENT, read_use
from closestfit.doing import Doing
from closestfit.errors import BadValue, NotPossible
from closestfit.forms import is_tuple_of

MOST_ASKED = 6


def wanted_uses(program, uses, least):
    """The nodes of a tuple of uses of the program, at least so many and at most six."""
    if not is_tuple_of(uses, least, MOST_ASKED):
        raise BadValue("uses")
    nodes = [read_use(program, use, MOST_IN_ARGUMENT) for use in uses]
    if None in nodes:
        raise BadValue("uses")
    return nodes


def untroubled(program, use):
    """The doing of a use that does not come to "two"."""
    doing = Doing(program, use)
    if doing.trouble and doing.trouble[0] == "two":
        raise NotPossible("two")
    return doing
