"""Judges weights, mixes and layers, without a search."""

from closestfit.forms import has_word, is_natural, is_tuple_of
from closestfit.weighing import are_weights


def shows_weights(weighing, value):
    """Whether the value is evidence about weights."""
    everything = list(range(len(weighing.uses)))
    if has_word(value, "weights", 2):
        return are_weights(weighing.program, value[1]) and fall_at(weighing, value[1], everything, everything)
    if not has_word(value, "mix", 2) or not weighing.is_mix(value[1]):
        return False
    return weighing.gains_nothing(value[1], everything) and any([count for count, _ in value[1]])


def fall_at(weighing, weights, left, falling):
    """Whether the weights hold at all uses left, and fall at those that are to fall."""
    flat = weighing.flattened(weights)
    if "neither" in [weighing.state(flat, number) for number in left]:
        return False
    return all([weighing.state(flat, number) == "falls" for number in falling])


def shows_layers(weighing, value):
    """Whether the value is evidence about layers."""
    if has_word(value, "layers", 3):
        return are_numbers(weighing, value[1]) and None not in value[1] and are_layers(weighing, value[1], value[2])
    if not has_word(value, "stuck", 4) or not are_numbers(weighing, value[1]) or None not in value[1]:
        return False
    stuck = [number for number, layer in enumerate(value[1]) if layer is None]
    return are_layers(weighing, value[1], value[2]) and is_mix_for(weighing, value[3], stuck, stuck)


def are_numbers(weighing, value):
    many = len(weighing.uses)
    return is_tuple_of(value, many, many) and all([layer is None or is_natural(layer) for layer in value])


def are_layers(weighing, numbers, layers):
    if not is_tuple_of(layers, 0, len(numbers)):
        return False
    if any([layer is not None and layer >= len(layers) for layer in numbers]):
        return False
    return all([is_layer(weighing, numbers, index, layer) for index, layer in enumerate(layers)])


def is_layer(weighing, numbers, index, layer):
    """Whether this is what layers have at the index."""
    if not is_tuple_of(layer, 2, 2) or not are_weights(weighing.program, layer[0]):
        return False
    left = [number for number, at in enumerate(numbers) if at is None or at >= index]
    falling = [number for number in left if numbers[number] == index]
    if not falling or not fall_at(weighing, layer[0], left, falling):
        return False
    return is_mix_for(weighing, layer[1], left, [number for number in left if number not in falling])


def is_mix_for(weighing, mix, left, counted):
    """Whether this is a mix over the uses left that gains nothing, with a count for each use that is to have one."""
    if not weighing.is_mix(mix) or not weighing.gains_nothing(mix, left):
        return False
    return all([mix[number][0] for number in counted])
