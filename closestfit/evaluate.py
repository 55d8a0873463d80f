"""What a use comes to."""

from closestfit.definitions import wanted_program, wanted_use
from closestfit.doing import Doing


def comes_to(program, use):
    """("value", value), or a trouble with its trail and its last use."""
    found = wanted_program(program)
    node = wanted_use(found, use)
    doing = Doing(found, node)
    if doing.trouble:
        return (doing.trouble[0], *doing.told_trouble())
    return ("value", found.store.write((doing.done[node],))[0])
