"""Points 127 to 137: weights by which uses get smaller."""

import itertools
import random
import unittest

from closestfit.evaluate import comes_to
from closestfit.records import done_evidence
from closestfit.weights import (accepts_layers, accepts_weights, at_use, layer_numbers, layers_evidence, measure, uses_in_bodies,
                                weights_evidence)
from tests import plain, plain_cases, plain_programs, plain_weights
from tests.makers import much_changed
from tests.programs import EXAMPLE, SPECIAL, ZERO, fitting_use, lively_program, number, nxt, small_use, some_programs
from tests.samples import NOTHINGS, NUMBERS, TYPES, bad, chain, deep_things
from tests.test_clear import told_or_word
from tests.test_ends import rising_program

# Point 137.
PLUS = (NUMBERS, (("Plus", (0, 0), 0),), (("Plus", (ZERO, 0), 0), ("Plus", (nxt(0), 1), ("Plus", 0, nxt(1)))))
ACK = (NUMBERS, (("Ack", (0, 0), 0),), (("Ack", (ZERO, 0), nxt(0)), ("Ack", (nxt(0), ZERO), ("Ack", 0, nxt(ZERO))),
                                       ("Ack", (nxt(0), nxt(1)), ("Ack", 0, ("Ack", nxt(0), 1)))))
UP = (NUMBERS, (("Up", (0,), 0), ("Mid", (0,), 0), ("Low", (0,), 0)),
      (("Up", (nxt(0),), ("Mid", nxt(nxt(0)))), ("Mid", (nxt(0),), ("Low", 0)), ("Low", (nxt(0),), ("Up", 0))))
EMPTY = (NUMBERS, PLUS[1], (("Plus", (0, 1), 0),))


def tangled_program(dice):
    """A program of several parameters, whose uses take some of the variables, with and without constructors."""
    generics = tuple((name, (0,) * dice.randint(1, 3), 0) for name in ("F", "G", "Ha", "K")[:dice.randint(1, 3)])
    found = []
    for name, kinds, _ in generics:
        for first in ((nxt(0),), (0,))[:dice.randint(1, 2)]:
            rest = [dice.choice((at + 1, nxt(at + 1))) for at in range(len(kinds) - 1)]
            pattern = (*first, *rest)
            known = range(len(kinds))

            def argument(depth):
                roll = dice.random()
                if roll < 0.12 and depth:
                    return made(0)
                if roll < 0.5:
                    return dice.choice(known)
                return nxt(dice.choice(known)) if roll < 0.75 else nxt(nxt(dice.choice(known))) if roll < 0.8 else ZERO

            def made(depth):
                other, parts, _ = dice.choice(generics)
                return (other, *[argument(depth) for _ in parts])
            body = made(1)
            if plain_programs.body_places(body) <= 12 and pattern not in [row for own, row, _ in found if own == name]:
                found.append((name, pattern, body))
    return (NUMBERS[:1], generics, tuple(found))


def all_programs(many, seed):
    dice = random.Random(seed)
    for at in range(many):
        yield dice, (tangled_program, rising_program, lively_program, tangled_program)[at % 4](dice)
    for _, program in some_programs(many // 4, seed):
        yield dice, program


def some_weights(program, dice, most=3):
    return tuple(tuple(dice.randint(0, most) for _ in kinds) for _, kinds, _ in program[1])


def small_weights(program, most):
    rows = [list(itertools.product(range(most + 1), repeat=len(kinds))) for _, kinds, _ in program[1]]
    return itertools.product(*rows)


class Points127To129(unittest.TestCase):
    def test_as_the_points_read(self):
        words = {"falls": 0, "holds": 0, "neither": 0}
        for dice, program in all_programs(250, 127):
            uses = uses_in_bodies(program)
            self.assertEqual(uses, plain_weights.uses(program))
            for _ in range(4):
                weights = some_weights(program, dice)
                for at, use in enumerate(uses):
                    told = at_use(program, weights, at)
                    self.assertEqual(told, plain_weights.at_use(program, weights, use))
                    words[told] += 1
                use = small_use(program, dice)
                self.assertEqual(measure(program, weights, use), plain_weights.measure(program, weights, use))
        self.assertGreater(min(words.values()), 50)

    def test_numbers_of_uses(self):
        self.assertEqual(uses_in_bodies(ACK), ((1, ()), (2, (1,)), (2, ())))
        self.assertEqual(uses_in_bodies(EXAMPLE), ((1, (0,)), (3, (0,)), (4, (0,)), (4, ()), (7, (0,)), (7, (1,)), (7, ())))
        self.assertEqual(uses_in_bodies(EMPTY), ())
        self.assertEqual(uses_in_bodies((NUMBERS, PLUS[1], ())), ())

    def test_measures(self):
        self.assertEqual(measure(PLUS, ((2, 1),), ("Plus", number(3), number(1))), 10)
        self.assertEqual(measure(PLUS, ((0, 0),), ("Plus", number(3), number(1))), 0)
        self.assertEqual(measure(PLUS, ((10 ** 40, 1),), ("Plus", number(59), ZERO)), 60 * 10 ** 40 + 1)
        self.assertEqual(measure(UP, ((1,), (2,), (3,)), ("Low", number(3))), 12)
        opened = (TYPES, (("A", (0, 0), 0),), ())
        self.assertEqual(measure(opened, ((3, 5),), ("A", ("#", 9), ("pair", ("#", 1), ("#", 1)))), 3 + 15)

    def test_states(self):
        for weights, told in (((2, 1), "falls"), ((1, 0), "falls"), ((1, 1), "holds"), ((0, 0), "holds"), ((0, 1), "neither"),
                              ((2, 3), "neither"), ((10 ** 40, 10 ** 40), "holds"), ((10 ** 40 + 1, 10 ** 40), "falls")):
            self.assertEqual(at_use(PLUS, (weights,), 0), told)
        # The outer use of ACK has an awaited second argument.
        self.assertEqual([at_use(ACK, ((1, 0),), at) for at in range(3)], ["falls", "holds", "falls"])
        self.assertEqual([at_use(ACK, ((0, 1),), at) for at in range(3)], ["neither", "falls", "neither"])
        self.assertEqual([at_use(ACK, ((1, 1),), at) for at in range(3)], ["holds", "falls", "neither"])
        self.assertEqual([at_use(ACK, ((2, 1),), at) for at in range(3)], ["falls", "falls", "neither"])
        # A variable that counts more behind, though the places do not; and the other way round.
        generics = (("F", (0, 0), 0),)
        program = (NUMBERS, generics, (("F", (nxt(nxt(0)), 1), ("F", 0, 0)), ("F", (ZERO, nxt(0)), ("F", nxt(ZERO), 0)),
                                       ("F", (nxt(ZERO), 0), ("F", ZERO, ZERO))))
        self.assertEqual([at_use(program, ((1, 1),), at) for at in range(3)], ["neither", "holds", "falls"])
        self.assertEqual([at_use(program, ((2, 1),), at) for at in range(3)], ["neither", "neither", "falls"])
        self.assertEqual([at_use(program, ((1, 2),), at) for at in range(3)], ["neither", "falls", "falls"])
        self.assertEqual([at_use(program, ((1, 0),), at) for at in range(3)], ["falls", "neither", "falls"])
        self.assertEqual([at_use(program, ((0, 1),), at) for at in range(3)], ["neither", "falls", "holds"])
        # A variable that stands twice on both sides.
        program = (TYPES, (("F", (0,), 0),), (("F", (("pair", 0, 0),), ("F", ("pair", 0, 0))),
                                              ("F", (("ptr", 0),), ("F", ("pair", 0, 0)))))
        self.assertEqual([at_use(program, ((1,),), at) for at in range(2)], ["holds", "neither"])
        self.assertEqual([at_use(program, ((0,),), at) for at in range(2)], ["holds", "holds"])

    def test_holding_weights_get_no_greater(self):
        """Point 130, with values for the variables and for the awaited arguments."""
        many = {"falls": 0, "holds": 0}
        for dice, program in all_programs(200, 130):
            weights = some_weights(program, dice, 2)
            for at, (home, path) in enumerate(uses_in_bodies(program)):
                state = at_use(program, weights, at)
                if state == "neither":
                    continue
                name, pattern, body = program[2][home]
                signature = program[0]
                standing = plain_cases.kinds_of_variables(signature, plain_programs.kinds_of(program, name), pattern)
                for _ in range(3):
                    what = {v: plain.some_values(signature, (kind,), 2, dice)[0] for v, kind in standing.items()}
                    use = plain_programs.body_at(body, path)
                    arguments = [plain.some_values(signature, (kind,), 2, dice)[0] if plain_programs.listed(program, term)
                                 else plain_cases.put((term,), what)[0]
                                 for term, kind in zip(use[1:], plain_programs.kinds_of(program, use[0]))]
                    before = plain_weights.measure(program, weights, (name, *plain_cases.put(pattern, what)))
                    after = plain_weights.measure(program, weights, (use[0], *arguments))
                    self.assertTrue(after < before or (after == before and state == "holds"))
                    many[state] += 1
        self.assertGreater(min(many.values()), 50)


class Points131To133(unittest.TestCase):
    def test_told_and_judged_as_the_points_read(self):
        words = {"weights": 0, "mix": 0}
        for dice, program in all_programs(400, 133):
            told = weights_evidence(program)
            words[told[0]] += 1
            self.assertIs(accepts_weights(program, told), True)
            self.assertIs(plain_weights.accepts_weights(program, told), True)
            others = [("weights", some_weights(program, dice)) for _ in range(4)] + [("mix", told[1]), ("weights", told[1])]
            others += [("mix", self.some_mix(program, dice)) for _ in range(3)]
            if told[0] == "weights":
                others.append(("weights", tuple(tuple(7 * item for item in row) for row in told[1])))
            else:
                others.append(("mix", tuple((3 * count, tuple(3 * item for item in counts)) for count, counts in told[1])))
            for value in (*much_changed(told, dice, 6), *others):
                accepted = accepts_weights(program, value)
                self.assertIs(accepted, plain_weights.accepts_weights(program, value))
                self.assertTrue(not accepted or value[0] == told[0])
        self.assertGreater(min(words.values()), 80)

    def some_mix(self, program, dice):
        found = []
        for home, _ in plain_weights.uses(program):
            variables = plain_cases.variables_in(program[2][home][1])
            found.append((dice.randint(0, 2), tuple(dice.randint(0, 2) for _ in variables)))
        return tuple(found)

    def test_small_weights_are_found(self):
        """If small weights fall, weights are told."""
        found = 0
        for _, program in all_programs(200, 134):
            uses = plain_weights.uses(program)
            if uses and sum(len(kinds) for _, kinds, _ in program[1]) <= 5:
                if any(all(plain_weights.at_use(program, weights, use) == "falls" for use in uses)
                       for weights in small_weights(program, 3)):
                    found += 1
                    self.assertEqual(weights_evidence(program)[0], "weights")
        self.assertGreater(found, 15)

    def test_courses_end(self):
        """Point 131: no use comes to a round, and a trail is not longer than the measure."""
        many = 0
        for dice, program in all_programs(250, 131):
            told = weights_evidence(program)
            if told[0] == "weights":
                use = fitting_use(program, dice)
                result = told_or_word(comes_to, program, use)
                self.assertNotEqual(result[0], "round")
                if isinstance(result, tuple) and result[0] in ("none", "two"):
                    many += len(result[1]) > 0
                    self.assertLessEqual(len(result[1]), measure(program, told[1], use))
                if isinstance(result, tuple) and result[0] == "value":
                    many += len(done_evidence(program, use)[1]) > 1
        self.assertGreater(many, 20)

    def test_weights_of_somebody_else(self):
        for weights, right in ((((2, 1),), True), (((1, 0),), True), (((1, 1),), False), (((10 ** 50, 10 ** 50 - 1),), True),
                               (((1,),), False), (((1, 0, 0),), False), (((1, 0), (1, 0)), False), ((), False), ((1, 0), False),
                               ([(1, 0)], False), (([1, 0],), False), (((True, False),), False), (((True, 0),), False),
                               (((1, -1),), False),
                               (((2, None),), False), ((("1", 0),), False), (None, False)):
            self.assertIs(accepts_weights(PLUS, ("weights", weights)), right)
        self.assertIs(accepts_weights(PLUS, ["weights", ((1, 0),)]), False)
        self.assertIs(accepts_weights(PLUS, ("weights", ((1, 0),), 0)), False)
        self.assertIs(accepts_weights(PLUS, ("Weights", ((1, 0),))), False)
        self.assertIs(accepts_weights(PLUS, (((1, 0),),)), False)

    def test_mixes_of_somebody_else(self):
        right = weights_evidence(ACK)[1]
        self.assertEqual(weights_evidence(ACK)[0], "mix")
        zero = tuple((0, (0,) * len(counts)) for _, counts in right)
        self.assertIs(accepts_weights(ACK, ("mix", right)), True)
        self.assertIs(accepts_weights(ACK, ("mix", zero)), False)
        # The use with an awaited argument leaves the first parameter alone.
        for mix, accepted in ((((0, (0,)), (1, (0, 0)), (0, (0, 0))), True), (((0, (0,)), (10 ** 40, (0, 0)), (0, (0, 0))), True),
                              (((1, (0,)), (0, (0, 0)), (0, (0, 0))), False), (((1, (1,)), (0, (0, 0)), (0, (0, 0))), False),
                              (((0, (0,)), (1, (5, 5)), (0, (0, 0))), True), (((0, (0,)), (1, (0, 0)), (1, (0, 0))), False),
                              (((0, (0,)), (1, (0,)), (0, (0, 0))), False), (((0, (0,)), (1, (0, 0))), False),
                              (((0, (0,)), (True, (0, 0)), (0, (0, 0))), False),
                              (((0, (0,)), (1, (0, False)), (0, (0, 0))), False), (((0, (0,)), (1, (0, -1)), (0, (0, 0))), False),
                              (((0, (0,)), (1, [0, 0]), (0, (0, 0))), False), ([(0, (0,)), (1, (0, 0)), (0, (0, 0))], False),
                              (((0, (0,)), [1, (0, 0)], (0, (0, 0))), False), (((0, (0,)), (1, (0, 0), 0), (0, (0, 0))), False),
                              (((0, (0,)), (-1, (0, 0)), (1, (0, 0))), False), (((0, (0,)), None, (0, (0, 0))), False),
                              (None, False)):
            self.assertIs(accepts_weights(ACK, ("mix", mix)), accepted)
        # Of UP one use adds a place, and the two others take two away: twice the first one and once each of them.
        for counts, accepted in (((2, 1, 1), True), ((3, 1, 1), False), ((1, 1, 1), False), ((0, 0, 0), False)):
            found = plain_weights.accepts_weights(UP, ("mix", tuple((count, (0,)) for count in counts)))
            self.assertIs(accepts_weights(UP, ("mix", tuple((count, (0,)) for count in counts))), found)
            self.assertTrue(accepted or not found)
        self.assertIs(accepts_weights(UP, weights_evidence(UP)), True)
        self.assertEqual(weights_evidence(UP)[0], "mix")

    def test_no_uses_in_bodies_and_no_definitions(self):
        for program in (EMPTY, (NUMBERS, PLUS[1], ())):
            told = weights_evidence(program)
            self.assertEqual(told[0], "weights")
            for weights, right in ((((0, 0),), True), (((5, 0),), True), (((5,),), False), (None, False)):
                self.assertIs(accepts_weights(program, ("weights", weights)), right)
            self.assertIs(accepts_weights(program, ("mix", ())), False)
            self.assertEqual(layers_evidence(program), ("layers", (), ()))
            self.assertEqual(layer_numbers(program), ())
            for value, right in ((("layers", (), ()), True), (("layers", (), ((((0, 0),), ()),)), False),
                                 (("stuck", (), (), ()), False)):
                self.assertIs(accepts_layers(program, value), right)

    def test_whatever_is_judged(self):
        for program in (PLUS, ACK, EMPTY):
            for value in (*NOTHINGS, *deep_things()):
                for evidence in (value, (value,), ("weights", value), ("mix", value), ("weights", (value,)),
                                 ("weights", ((value, 0),)),
                                 ("mix", (value,)), ("mix", (value,) * 3), ("mix", ((0, (0,)), (value, (0, 0)), (0, (0, 0)))[:2]),
                                 (value, ((1, 0),)),
                                 ("mix", ((0, (0,)), (1, value), (0, (0, 0)))), ("mix", ((value, (0, 0)),)),
                                 ("weights", ((1, value),))):
                    right = plain_weights.accepts_weights(program, evidence) if is_shallow(evidence) else False
                    self.assertIs(accepts_weights(program, evidence), right)


def is_shallow(value, depth=8):
    """Whether the value is not nested deeper."""
    if not isinstance(value, (tuple, list)):
        return True
    return depth > 0 and all(is_shallow(item, depth - 1) for item in value[:9])


class Points134And135(unittest.TestCase):
    def test_told_and_judged_as_the_points_read(self):
        words = {"layers": 0, "stuck": 0}
        deep = 0
        for dice, program in all_programs(500, 134):
            told = layers_evidence(program)
            words[told[0]] += 1
            deep += len(told[2]) > 1
            self.assertEqual(layer_numbers(program), told[1])
            self.assertIs(accepts_layers(program, told), True)
            self.assertIs(plain_weights.accepts_layers(program, told), True)
            self.assertEqual(weights_evidence(program)[0] == "weights", told[0] == "layers" and not any(told[1]))
            for value in (*much_changed(told, dice, 8), *self.variations(program, told, dice)):
                accepted = accepts_layers(program, value)
                self.assertIs(accepted, plain_weights.accepts_layers(program, value))
                self.assertTrue(not accepted or value[:2] == told[:2])
        self.assertGreater(min(words.values()), 80)
        self.assertGreater(deep, 20)

    def variations(self, program, told, dice):
        """Other numbers, other weights, layers changed about, and a further one."""
        word, numbers, layers, *rest = told
        many = range(len(numbers))
        moved = tuple([dice.choice((0, 1, 2, None)) if dice.random() < 0.3 else at for at in numbers])
        empty = tuple((0, (0,) * len(plain_cases.variables_in(program[2][home][1]))) for home, _ in plain_weights.uses(program))
        times = tuple((tuple(tuple(5 * item for item in row) for row in weights),
                       tuple((2 * count, tuple(2 * item for item in counts)) for count, counts in mix)) for weights, mix in layers)
        found = [(word, moved, layers, *rest), (word, numbers, layers[::-1], *rest), (word, numbers, layers[1:], *rest),
                 (word, numbers, times, *rest), (word, numbers, (*layers, (some_weights(program, dice), empty)), *rest),
                 (word, numbers, tuple((weights, empty) for weights, _ in layers), *rest),
                 (word, numbers, tuple((some_weights(program, dice), mix) for _, mix in layers), *rest),
                 ("stuck", numbers, layers, empty), ("layers", numbers, layers), ("stuck", tuple(None for _ in many), (), empty)]
        if rest:
            found += [("stuck", tuple(None for _ in many), (), rest[0]), (word, numbers, layers, empty)]
        return found

    def test_numbers_are_the_least_ones(self):
        """Whatever small weights hold at the uses left, they fall at none that comes later."""
        for _, program in all_programs(150, 135):
            uses = plain_weights.uses(program)
            if not uses or sum(len(kinds) for _, kinds, _ in program[1]) > 5:
                continue
            numbers = layer_numbers(program)
            for at in range(max([number + 1 for number in numbers if number is not None], default=0) + 1):
                left = [use for use, number in zip(uses, numbers) if number is None or number >= at]
                for weights in small_weights(program, 2):
                    states = [plain_weights.at_use(program, weights, use) for use in left]
                    if "neither" not in states:
                        falling = [use for use, state in zip(left, states) if state == "falls"]
                        self.assertTrue(all(numbers[uses.index(use)] == at for use in falling))

    def test_measures_fall_along_courses(self):
        """Point 135: compared as tuples, from each use of a trail to the next one."""
        many = 0
        for dice, program in all_programs(300, 136):
            told = layers_evidence(program)
            if told[0] != "layers" or not told[2]:
                continue
            for _ in range(3):
                result = told_or_word(comes_to, program, fitting_use(program, dice))
                self.assertNotEqual(result[0], "round")
                if isinstance(result, tuple) and result[0] != "value":
                    course = [use for use, _ in result[1]] + [result[2]]
                    rows = [tuple(plain_weights.measure(program, weights, use) for weights, _ in told[2]) for use in course]
                    many += len(rows) > 1
                    self.assertTrue(all(near > far for near, far in zip(rows, rows[1:])))
        self.assertGreater(many, 10)

    def test_layers_of_somebody_else(self):
        self.assertEqual(layer_numbers(ACK), (0, 1, 0))
        mix, none = ((0, (0,)), (1, (0, 0)), (0, (0, 0))), ((0, (0,)), (0, (0, 0)), (0, (0, 0)))
        first, second = (((1, 0),), mix), (((0, 1),), none)
        self.assertIs(accepts_layers(ACK, ("layers", (0, 1, 0), (first, second))), True)
        for layers, right in (((first, (((3, 5),), none)), True),
                              (((((9, 0),), ((0, (0,)), (7, (2, 0)), (0, (0, 0)))), second), True),
                              ((first,), False), ((second, first), False), ((first, second, second), False),
                              (([*first], second), False),
                              ([first, second], False), ((first, (((0, 1),), mix)), False), (((((1, 1),), mix), second), False),
                              (((((1, 0),), none), second), False), ((first, (((0, 0),), none)), False),
                              ((first, (((0, 1),),)), False),
                              ((first, (((0, True),), none)), False), ((first, None), False), (None, False), ((), False)):
            self.assertIs(accepts_layers(ACK, ("layers", (0, 1, 0), layers)), right)
        for numbers in ((0, 0, 0), (1, 1, 0), (0, 1, 1), (0, 2, 0), (0, True, 0), (False, 1, False), [0, 1, 0], (0, 1),
                        (0, 1, 0, 0), (0, None, 0),
                        (0, -1, 0), (0, "1", 0), None, (None,) * 3):
            self.assertIs(accepts_layers(ACK, ("layers", numbers, (first, second))), False)
        for value in (("layers", (0, 1, 0), (first, second), none), ["layers", (0, 1, 0), (first, second)],
                      ("stuck", (0, 1, 0), (first, second), none),
                      ("layers", (0, 1, 0)), ("Layers", (0, 1, 0), (first, second)), ("stuck", (0, None, 0), (first,), mix),
                      ("stuck", (0, None, 0), (first,), none)):
            self.assertIs(accepts_layers(ACK, value), False)

    def test_a_use_that_falls_too_soon(self):
        """All weights that hold at the uses left and fall at some are judged by their numbers, the mixes say there are no more."""
        generics = (("F", (0, 0), 0),)
        program = (NUMBERS, generics, (("F", (nxt(0), nxt(1)), ("F", 0, 1)), ("F", (nxt(0), ZERO), ("F", 0, ZERO))))
        self.assertEqual(layer_numbers(program), (0, 0))
        later = ((0, (0, 0)), (1, (0,)))
        self.assertIs(accepts_layers(program, ("layers", (0, 1), ((((0, 1),), later), (((1, 0),), ((0, (0, 0)), (0, (0,))))))),
                      False)

    def test_stuck(self):
        told = layers_evidence(UP)
        self.assertEqual(told[:3], ("stuck", (None, None, None), ()))
        # One that is stuck beside one that is not.
        program = (NUMBERS, (("F", (0,), 0), ("G", (0,), 0)), (("F", (nxt(0),), ("F", 0)), ("G", (0,), ("G", nxt(0)))))
        self.assertEqual(layer_numbers(program), (0, None))
        mix, last = ((0, (0,)), (1, (0,))), ((0, (0,)), (2, (1,)))
        weights = ((1,), (0,))
        self.assertIs(accepts_layers(program, ("stuck", (0, None), ((weights, mix),), last)), True)
        for value in (("stuck", (0, None), ((weights, mix),), ((1, (0,)), (2, (1,)))),
                      ("stuck", (0, None), ((weights, mix),), ((0, (0,)), (0, (0,)))),
                      ("stuck", (0, None), ((weights, mix),), ((0, (1,)), (2, (1,)))), ("stuck", (0, None), (), last),
                      ("stuck", (None, None), (), last),
                      ("stuck", (0, None), ((weights, ((0, (0,)), (0, (0,)))),), last),
                      ("stuck", (0, None), ((((1,), (1,)), mix),), last),
                      ("stuck", (0, None), ((weights, mix),)), ("layers", (0, None), ((weights, mix),)),
                      ("stuck", (0, None), ((weights, mix),) * 2, last)):
            self.assertIs(accepts_layers(program, value), False)

    def test_awaited_parameters_are_free_again(self):
        """Where the uses with awaited arguments are done, their parameters can have weights."""
        generics = (("F", (0, 0), 0),)
        program = (NUMBERS, generics, (("F", (nxt(0), 1), ("F", 0, ("F", 0, 1))), ("F", (ZERO, nxt(0)), ("F", ZERO, 0))))
        self.assertEqual(layer_numbers(program), (0, 0, 1))
        told = layers_evidence(program)
        self.assertEqual(told[2][0][0], ((1, 0),))
        self.assertEqual(at_use(program, told[2][1][0], 2), "falls")

    def test_many_layers(self):
        """Three parameters, each one of which falls only where those before stay as they are."""
        generics = (("F", (0, 0, 0), 0),)
        grown = nxt(nxt(0))
        program = (NUMBERS, generics, (("F", (nxt(0), 1, 2), ("F", 0, ("F", 0, 1, 2), ("F", 0, 1, 2))),
                                       ("F", (0, nxt(1), 2), ("F", 0, 1, nxt(("F", 0, 1, 2)))),
                                       ("F", (0, 1, nxt(2)), ("F", 0, 1, 2))))
        self.assertEqual(plain_weights.uses(program), uses_in_bodies(program))
        self.assertEqual(layer_numbers(program), (0, 0, 0, 1, 1, 2))
        self.assertEqual(layers_evidence(program)[0], "layers")
        self.assertEqual(weights_evidence(program)[0], "mix")
        self.assertEqual(plain.places(plain_cases.put((grown,), {0: ZERO})[0]), 3)

    def test_great_programs(self):
        """16 definitions with eleven uses in each body."""
        generics = tuple((name, (0,), 0) for name in "FGHK")
        rows = []
        for many in range(4):
            for at, name in enumerate("FGHK"):
                rows.append((name, (chain("next", many, 0),), chain("FGHK"[(at + many) % 4], 11, 0)))
        program = (NUMBERS, generics, tuple(rows))
        told = layers_evidence(program)
        self.assertEqual(len(told[1]), 176)
        self.assertIs(accepts_layers(program, told), True)
        self.assertIs(plain_weights.accepts_layers(program, told), True)
        self.assertIs(accepts_weights(program, weights_evidence(program)), True)

    def test_weights_that_are_hard_to_find(self):
        """Each use asks for a greater weight of the next parameter."""
        generics = tuple((name, (0, 0, 0), 0) for name in "FGHK")
        rows = []
        for at, name in enumerate("FGH"):
            rows.append((name, (nxt(0), 1, 2), ("FGHK"[at + 1], nxt(nxt(nxt(0))), nxt(1), 2)))
        program = (NUMBERS, generics, tuple(rows))
        told = weights_evidence(program)
        self.assertEqual(told[0], "weights")
        self.assertIs(accepts_weights(program, told), True)

    def test_whatever_is_judged(self):
        mix, none = ((0, (0,)), (1, (0, 0)), (0, (0, 0))), ((0, (0,)), (0, (0, 0)), (0, (0, 0)))
        first, second = (((1, 0),), mix), (((0, 1),), none)
        for value in (*NOTHINGS, *deep_things()):
            for evidence in (value, (value,), ("layers", value, (first, second)), ("layers", (0, 1, 0), value),
                             ("layers", (0, 1, 0), (first, value)),
                             ("layers", (0, 1, 0), ((value, mix), second)), ("layers", (0, 1, 0), ((((1, 0),), value), second)),
                             ("layers", (value, value, value), (first, second)), ("stuck", value, value, value),
                             ("stuck", (None,) * 3, (), value),
                             ("stuck", (value, None, value), (), mix), (value, (0, 1, 0), (first, second)),
                             ("layers", (0, 1, 0), (first, second), value)):
                self.assertIs(accepts_layers(ACK, evidence), False)


class Point136(unittest.TestCase):
    def test_wrong_arguments(self):
        calls = (uses_in_bodies, weights_evidence, layers_evidence, layer_numbers, lambda p: accepts_weights(p, None),
                 lambda p: accepts_layers(p, None), lambda p: measure(p, None, None), lambda p: at_use(p, None, None))
        for function in calls:
            for program in (*NOTHINGS, *deep_things(), list(PLUS), (NUMBERS, (), ())):
                bad(self, "program", function, program)
        for weights in (*NOTHINGS, *deep_things(), ((1,),), ((1, 0, 0),), ((1, 0), (1, 0)), [(1, 0)], ([1, 0],), ((1, -1),),
                        ((True, 0),), ((1, None),)):
            bad(self, "weights", measure, PLUS, weights, None)
            bad(self, "weights", at_use, PLUS, weights, None)
        for use in (*NOTHINGS, *deep_things(), ("Plus", ZERO), ("Plus", number(60), ZERO), ["Plus", ZERO, ZERO], ("Plus", 0, 1),
                    ("Ack", ZERO, ZERO)):
            bad(self, "use", measure, PLUS, ((1, 0),), use)
        for at in (*deep_things(), None, True, False, -1, 1, "0", (0,), [0], 10 ** 30):
            bad(self, "number", at_use, PLUS, ((1, 0),), at)
        bad(self, "number", at_use, EMPTY, ((1, 0),), 0)
        self.assertEqual(at_use(PLUS, ((1, 0),), 0), "falls")


class Point137(unittest.TestCase):
    def test_example(self):
        self.assertEqual(at_use(PLUS, ((2, 1),), 0), "falls")
        self.assertIs(accepts_weights(PLUS, ("weights", ((2, 1),))), True)
        self.assertEqual(weights_evidence(PLUS)[0], "weights")
        self.assertEqual(weights_evidence(ACK)[0], "mix")
        self.assertEqual(layers_evidence(ACK)[:2], ("layers", (0, 1, 0)))
        self.assertEqual(layers_evidence(UP)[0], "stuck")
        self.assertEqual(weights_evidence(SPECIAL)[0], "weights")


if __name__ == "__main__":
    unittest.main()
