"""Evidence about what a use comes to."""

from closestfit.definitions import wanted_program, wanted_use
from closestfit.doing import Doing
from closestfit.rows import read_rows, shows_done


def done_evidence(program, use):
    """The told evidence about the use."""
    found = wanted_program(program)
    return Doing(found, wanted_use(found, use)).told_evidence()


def accepts_done(program, use, value):
    """Whether the value is evidence of any of the four words about the use."""
    found = wanted_program(program)
    return shows_done(found, wanted_use(found, use), value)


def are_rows(program, value):
    """Whether the value is a right tuple of rows."""
    return read_rows(wanted_program(program), value) is not None
