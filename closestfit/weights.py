"""Weights by which uses get smaller."""

from closestfit.definitions import wanted_program, wanted_use
from closestfit.errors import BadValue
from closestfit.forms import is_index
from closestfit.layering import told_layers, told_weights
from closestfit.scales import shows_layers, shows_weights
from closestfit.weighing import Weighing, are_weights


def uses_in_bodies(program):
    """The pairs of number and path of the uses in bodies, in order."""
    return tuple([(use.definition, use.path) for use in Weighing(wanted_program(program)).uses])


def want_weights(program, weights):
    if not are_weights(program, weights):
        raise BadValue("weights")


def measure(program, weights, use):
    """The measure of a use of values."""
    found = wanted_program(program)
    want_weights(found, weights)
    node = wanted_use(found, use)
    row = weights[found.names.index(use[0])]
    return sum([weight * found.store.sizes[value] for weight, value in zip(row, found.store.parts[node])])


def at_use(program, weights, number):
    """"falls", "holds" or "neither": what the weights do at the use in a body with this number."""
    found = wanted_program(program)
    want_weights(found, weights)
    weighing = Weighing(found)
    if not is_index(number, len(weighing.uses)):
        raise BadValue("number")
    return weighing.state(weighing.flattened(weights), number)


def weights_evidence(program):
    """Evidence that there are falling weights, or that there are none."""
    return told_weights(Weighing(wanted_program(program)))


def accepts_weights(program, value):
    """Whether the value is evidence about weights."""
    return shows_weights(Weighing(wanted_program(program)), value)


def layers_evidence(program):
    """Evidence about the layers of the uses in bodies."""
    return told_layers(Weighing(wanted_program(program)))


def accepts_layers(program, value):
    """Whether the value is evidence about layers."""
    return shows_layers(Weighing(wanted_program(program)), value)


def layer_numbers(program):
    """The numbers that all evidence about layers has."""
    return layers_evidence(program)[1]
