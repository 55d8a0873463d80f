"""Finds falling weights, layers of weights, and mixes that say that there are none sooner."""

from math import gcd

from closestfit.tableau import Tableau
from closestfit.weighing import weight_of


class Layer:
    """Weights that hold at all uses left and fall at as many of them as can be.

    The mix is one over the uses left that gains nothing; in it each use at
    which the weights do not fall has a count from 1 on. So they fall at no
    other one.
    """

    def __init__(self, weighing, left):
        self.weighing = weighing
        self.left = left
        self.parameters = weighing.free_of(left)
        # Each different row once, with the use and the place in it that has its count.
        self.owners = {}
        for number in left:
            for place, row in enumerate(weighing.uses[number].rows):
                self.owners.setdefault(self._part(row), (number, place))
        self.flat = [0 for _ in range(weighing.many)]
        self.falling = {}
        self.mix = [[0 for _ in use.rows] for use in weighing.uses]
        self._search()

    def _part(self, row):
        return tuple([row[parameter] for parameter in self.parameters])

    def _first_row(self, number):
        return self.weighing.uses[number].rows[0]

    def _search(self):
        """Adds weights up as long as they fall at a further use; in the end there is a mix."""
        targets = list(self.left)
        while targets:
            rows = [self._part(self._first_row(number)) for number in targets]
            goal = [sum([row[p] for row in rows]) for p in range(len(self.parameters))]
            tableau = Tableau(list(self.owners), goal)
            found = tableau.weights()
            if found is None:
                self._take_mix(tableau.counts(), targets)
                return
            self._add(found)
            self.falling = {number: True for number in self.left if weight_of(self._first_row(number), self.flat) > 0}
            targets = [number for number in self.left if number not in self.falling]

    def _add(self, found):
        for parameter, weight in zip(self.parameters, lowered(found)):
            self.flat[parameter] += weight

    def _take_mix(self, counts, targets):
        counts = lowered(counts)
        for (number, place), count in zip(self.owners.values(), counts):
            self.mix[number][place] += count
        for number in targets:
            self.mix[number][0] += counts[-1]

    def told_weights(self):
        return self.weighing.unflattened(self.flat)

    def told_mix(self):
        return tuple([(row[0], tuple(row[1:])) for row in self.mix])


def lowered(numbers):
    """The numbers without what divides all of them; one at least is above 0."""
    common = 0
    for number in numbers:
        common = gcd(common, number)
    return [number // common for number in numbers]


def told_weights(weighing):
    """("weights", weights) or ("mix", mix)."""
    layer = Layer(weighing, list(range(len(weighing.uses))))
    if len(layer.falling) == len(weighing.uses):
        return ("weights", layer.told_weights())
    return ("mix", layer.told_mix())


def told_layers(weighing):
    """("layers", numbers, layers) or ("stuck", numbers, layers, mix)."""
    numbers = [None for _ in weighing.uses]
    layers = []
    left = list(range(len(numbers)))
    while left:
        layer = Layer(weighing, left)
        if not layer.falling:
            return ("stuck", tuple(numbers), tuple(layers), layer.told_mix())
        for number in layer.falling:
            numbers[number] = len(layers)
        layers.append((layer.told_weights(), layer.told_mix()))
        left = [number for number in left if number not in layer.falling]
    return ("layers", tuple(numbers), tuple(layers))
