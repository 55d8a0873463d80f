"""Points 93 to 97: uses in bodies that never get stuck, and those that can."""

import itertools
import unittest

from closestfit.covers import accepts_cover, cover_evidence
from closestfit.kinds import is_finite
from closestfit.programs import chosen, step, uses_in
from closestfit.sound import is_use_evidence, joint_case, stuck_uses, use_evidence
from tests import plain, plain_cases, plain_programs
from tests.makers import much_changed
from tests.programs import EXAMPLE, SPECIAL, ZERO, nxt, number, some_programs
from tests.samples import NOTHINGS, NUMBERS, TYPES, bad, chain, deep_things, too_large
from tests.tables import FORKS, fork_path, leaves_of, split_tree
from tests.test_clear import told_or_word

INT = ("int",)
WITHOUT = (*SPECIAL[:2], SPECIAL[2][:2])


def pair(one, other):
    return ("pair", one, other)


def spine(many):
    term = 0
    for _ in range(many - 1):
        term = pair(0, term)
    return term


def large_fits(parameters, arguments, pattern=None):
    """A program whose used generic has two patterns whose fits have a meet of 58 places and one for each parameter."""
    generics = (("F", (0,) * parameters, 0), ("G", (0, 0), 0))
    there = (("G", (spine(5), 0), 0), ("G", (0, chain("ptr", 8, 1)), 0), ("G", (0, 1), 0))
    return TYPES, generics, (("F", pattern or tuple(range(parameters)), ("G", *arguments)), *there)


def letters(many):
    """A program with a use whose joint case has a tree of 284 leaves with 5, and too many with 6."""
    signature = (("closed", (("la", ()), ("lb", ()))),
                 ("closed", (("wa", (1,)), ("wb", (1,)), ("wc", (1,)), ("wn", ()))), ("closed", (("pp", (0, 0)),)))
    generics = (("F", (2, 2, 1), 0), ("G", (2, 2, 1), 0))
    there = ((("pp", 0, 0), 1, 2), (("pp", 0, 1), ("pp", 0, 2), 3), (("pp", 0, 1), ("pp", 1, 2), 3),
             (0, 1, chain("wa", 9, ("wn",))), (0, 1, ("wb", chain("wa", many, ("wn",)))))
    return signature, generics, (("F", (0, 1, 2), ("G", 0, 1, 2)), *[("G", pattern, ("la",)) for pattern in there])


PATHS = ("LLLLL", "RLLLL", "LRLLL", "RRLLL", "LLRLL", "LRRLL", "RLRLL", "RRRLL", "LLLRL", "LLRRL", "LRLRL", "LRRRL")


def great_values(wraps):
    """A program with a use that can get stuck at a value of 399 places and one for each wrap."""
    term = 0
    for _ in range(4):
        term = ("fork", 0, term)
    patterns = [plain_cases.numbered((fork_path(steps),)) for steps in PATHS]
    return FORKS, (("F", (0,), 0), ("G", (0,), 0)), (("F", (chain("wrap", wraps, term),), ("G", 0)),
                                                    *[("G", pattern, ("nil",)) for pattern in patterns])


class Point93(unittest.TestCase):
    def test_as_the_point_reads(self):
        many = 0
        for _, program in some_programs(250, 93):
            for at in range(len(program[2])):
                for path in uses_in(program, at):
                    told = joint_case(program, at, path)
                    self.assertEqual(told, plain_programs.joint_case(program, at, path))
                    self.assertEqual(plain_cases.numbered(told[1]), told[1])
                    many += 1
        self.assertGreater(many, 200)

    def test_inner_uses(self):
        """Each one has a variable of its own, also where two are equal; what is in them does not stand in the case."""
        generics = (("F", (0, 0), 0), ("G", (0, 0, 0), 0))
        body = ("G", ("F", 0, 1), ("F", 0, 1), ("F", ("F", 1, 0), 0))
        program = (NUMBERS, generics, (("F", (nxt(0), 1), body), ("F", (0, 0), ZERO), ("F", (0, 1), 1), ("G", (0, ZERO, 0), ZERO)))
        kinds, case, table = joint_case(program, 0, ())
        self.assertEqual(kinds, (0,) * 5)
        self.assertEqual(case, (nxt(0), 1, 2, 3, 4))
        # The pattern itself and the one that it is below are no takers.
        self.assertEqual(table, ((0, 0, 1, 2, 3), (0, 1, 2, ZERO, 2)))
        self.assertEqual(joint_case(program, 0, (2,))[1:], ((nxt(0), 1, 2, 0), (
            (0, 0, 1, 2), (0, 1, nxt(2), 3), (0, 1, 2, 2), (0, 1, 2, 3))))
        self.assertEqual(joint_case(program, 0, (2, 0))[1], (nxt(0), 1, 1, 0))

    def test_new_variables_from_left_to_right(self):
        generics = (("F", (0,), 0), ("G", (0, 0), 0))
        program = (NUMBERS, generics, (("F", (ZERO,), ("G", nxt(("F", ZERO)), ("F", ("F", ZERO)))),))
        self.assertEqual(joint_case(program, 0, ()), ((0, 0, 0), (ZERO, nxt(0), 1), ()))

    def test_kinds_and_numbers(self):
        generics = (("F", (1, 0), 1), ("G", (0,), 0))
        program = (NUMBERS, generics, (("F", (("box", 0), 1), ("box", ("G", ("G", 1)))), ("F", (0, ZERO), 0), ("G", (nxt(0),), 0)))
        self.assertEqual(joint_case(program, 0, (0,)), ((1, 0, 0), (("box", 0), 1, 2), ((0, ZERO, 1), (0, 1, nxt(2)))))
        self.assertEqual(joint_case(program, 0, (0, 0)), ((1, 0, 0), (("box", 0), 1, 1), ((0, ZERO, 1), (0, 1, nxt(2)))))


class Points94And95(unittest.TestCase):
    def test_told_and_judged_as_the_points_read(self):
        words = {"sound": 0, "stuck": 0}
        rows = 0
        for dice, program in some_programs(300, 95, most=10):
            finite = [is_finite(program[0], kind) for kind in range(len(program[0]))]
            stuck = []
            for at in range(len(program[2])):
                for path in uses_in(program, at):
                    right = plain_programs.told_use(program, at, path, finite)
                    told = told_or_word(use_evidence, program, at, path)
                    self.assertEqual(told, right)
                    if isinstance(told, str):
                        continue
                    words[told[0]] += 1
                    rows += told[0] == "sound" and len(told[2]) > 0
                    self.assertIs(is_use_evidence(program, at, path, told), True)
                    self.assertIs(plain_programs.accepts_use(program, at, path, told), True)
                    if told[0] == "stuck":
                        stuck.append((at, path))
                        self.check_stuck(program, at, path, told)
                    for value in (*much_changed(told, dice, 5), ("sound", *told[1:]), ("stuck", *told[1:]),
                                  ("sound", ("by", 0), ())):
                        accepted = is_use_evidence(program, at, path, value)
                        self.assertIs(accepted, plain_programs.accepts_use(program, at, path, value))
                        self.assertTrue(not accepted or value[0] == told[0])
            self.assertEqual(stuck_uses(program), tuple(stuck))
        self.assertGreater(min(words.values()), 100)
        self.assertGreater(rows, 20)

    def check_stuck(self, program, at, path, told):
        """The values choose the definition, and some use without a choice comes of it."""
        name, pattern, body = program[2][at]
        self.assertEqual(chosen(program, (name, *told[1])), at)
        use = plain_programs.body_at(step(program, (name, *told[1])), path)
        following = iter(told[2])
        arguments = [plain_programs.without_uses(program, argument, following) for argument in use[1:]]
        self.assertNotIsInstance(chosen(program, (use[0], *arguments)), int)

    def test_sound_means_a_choice_wherever_the_definition_was_chosen(self):
        """Point 94, at all small values for the parameters and for what the inner uses come to."""
        many = 0
        for _, program in some_programs(150, 94):
            stuck = told_or_word(stuck_uses, program)
            if isinstance(stuck, str):
                continue
            for at, (name, pattern, _) in enumerate(program[2]):
                columns = [plain.ordered_values(program[0], kind, 2, 3)[:4] for kind in plain_programs.kinds_of(program, name)]
                for values in itertools.product(*columns):
                    if chosen(program, (name, *values)) == at:
                        many += self.check_uses(program, at, values, stuck)
        self.assertGreater(many, 100)

    def check_uses(self, program, at, values, stuck):
        many = 0
        done = step(program, (program[2][at][0], *values))
        for path in uses_in(program, at):
            use = plain_programs.body_at(done, path)
            new = itertools.count(1000)
            arguments = tuple(plain_programs.without_uses(program, argument, new) for argument in use[1:])
            standing = plain_cases.kinds_of_variables(program[0], plain_programs.kinds_of(program, use[0]), arguments)
            if len(standing) > 2 or (at, path) in stuck:
                continue
            for worth in itertools.product(*[plain.ordered_values(program[0], kind, 2, 3)[:4] for kind in standing.values()]):
                many += 1
                full = plain_cases.put(arguments, dict(zip(standing, worth)))
                self.assertIsInstance(chosen(program, (use[0], *full)), int)
        return many

    def test_rows(self):
        """Two fits that meet, at the joint case alone; what is below both covers, or the takers do."""
        generics = (("F", (0,), 0), ("G", (0, 0), 0))
        there = (("G", (nxt(0), 1), 0), ("G", (0, nxt(1)), 1), ("G", (ZERO, ZERO), ZERO))
        use = ("F", (0,), ("G", 0, 0))
        self.assertEqual(use_evidence((NUMBERS, generics, (use, *there)), 0, ()), ("stuck", (nxt(ZERO),), ()))
        both = ("G", (nxt(0), nxt(1)), 0)
        self.assertEqual(use_evidence((NUMBERS, generics, (use, *there, both)), 0, ()),
                         ("sound", ("split", 0, (("by", 2), ("by", 0))), ((0, 1, ("by", 3)), (0, 3, ("by", 3)), (1, 3, ("by", 3)))))
        # A taker has these values instead.
        taker = ("F", (nxt(0),), ZERO)
        self.assertEqual(use_evidence((NUMBERS, generics, (use, taker, *there)), 0, ()),
                         ("sound", ("split", 0, (("by", 3), ("by", 0))), ((0, 1, ("by", 0)),)))
        # The fits meet, but not where the joint case is.
        zeros = ("F", (0,), ("G", 0, ZERO))
        self.assertEqual(use_evidence((NUMBERS, generics, (zeros, *there)), 0, ()),
                         ("sound", ("split", 0, (("by", 2), ("by", 0))), ()))

    def test_rows_of_somebody_else(self):
        generics = (("F", (0,), 0), ("G", (0, 0), 0))
        program = (NUMBERS, generics, (("F", (0,), ("G", 0, 0)), ("F", (nxt(0),), ZERO), ("G", (nxt(0), 1), 0),
                                       ("G", (0, nxt(1)), 1),
                                       ("G", (ZERO, ZERO), ZERO)))
        top, by = ("split", 0, (("by", 3), ("by", 0))), ("by", 0)
        other = ("split", 0, (by, by))
        for evidence, right in ((("sound", top, ((0, 1, by),)), True), (("sound", top, ((0, 1, other),)), True),
                                (("sound", ("split", 0, (("by", 3), ("by", 1))), ((0, 1, by),)), True),
                                (("sound", ("split", 0, (("by", 3), ("by", 2))), ((0, 1, by),)), True),
                                (("sound", top, ((0, 1, ("by", 1)),)), False), (("sound", top, ()), False),
                                (("sound", top, ((0, 1, by), (0, 2, by))), False), (("sound", top, ((0, 2, by),)), False),
                                (("sound", top, ((False, 1, by),)), False), (("sound", top, ((0, True, by),)), False),
                                (("sound", top, [(0, 1, by)]), False), (("sound", top, ([0, 1, by],)), False),
                                (("sound", by, ((0, 1, by),)), False), (("sound", top), False), (("sound", top, ((0, 1),)), False),
                                (["sound", top, ((0, 1, by),)], False), (("Sound", top, ((0, 1, by),)), False),
                                (("stuck", (ZERO,), ()), False), (("stuck", (nxt(ZERO),), ()), False)):
            self.assertIs(is_use_evidence(program, 0, (), evidence), right)

    def test_values_of_somebody_else(self):
        generics = (("F", (0, 0), 0), ("G", (0, 0), 0))
        program = (NUMBERS, generics, (("F", (0, nxt(1)), ("G", 0, nxt(("F", 0, 1)))), ("F", (ZERO, 0), 0),
                                       ("G", (nxt(0), nxt(0)), 0)))
        one, two = number(1), number(2)
        for values, others, right in (((one, one), (one,), True), ((one, two), (two,), True), ((one, one), (ZERO,), False),
                                      ((ZERO, one), (one,), False), ((one, ZERO), (one,), False), ((one,), (one,), False),
                                      ((one, one), (), False), ((one, one), (one, one), False), ([one, one], (one,), False),
                                      ((one, one), [one], False), ((one, one), (0,), False), ((one, nxt(1)), (one,), False),
                                      ((one, one), (number(399),), True), ((one, one), (number(400),), False),
                                      ((one, number(399)), (one,), True), ((one, number(400)), (one,), False),
                                      ((number(399), one), (one,), True), (None, (one,), False), ((one, one), None, False),
                                      ((one, ["zero"]), (one,), False), ((one, one), (("box", ZERO),), False)):
            self.assertIs(is_use_evidence(program, 0, (), ("stuck", values, others)), right)
            self.assertIs(is_use_evidence(program, 0, (), ("sound", values, others)), False)
        # Where the use chooses two it is stuck, too.
        program = (NUMBERS, (("F", (0,), 0), ("G", (0, 0), 0)),
                   (("F", (0,), ("G", 0, 0)), ("G", (nxt(0), 1), 0), ("G", (0, nxt(1)), 1), ("G", (0, 1), 1)))
        self.assertIs(is_use_evidence(program, 0, (), ("stuck", (one,), ())), True)
        self.assertIs(is_use_evidence(program, 0, (), ("stuck", (ZERO,), ())), False)

    def test_trees_of_300_and_301_leaves_are_judged(self):
        program = (NUMBERS, (("F", (0,), 0),), (("F", (0,), ("F", 0)),))
        for many, right in ((1, True), (2, True), (300, True), (301, False), (5000, False)):
            self.assertIs(is_use_evidence(program, 0, (), ("sound", split_tree(many), ())), right)
        program = (NUMBERS, (("F", (0,), 0), ("G", (0,), 0)), (("F", (0,), ("G", 0)), ("G", (0,), 0), ("G", (nxt(0),), 0)))
        for many, right in ((1, True), (300, True), (301, False), (5000, False)):
            rows = ((0, 1, by_one(split_tree(many))),)
            self.assertIs(is_use_evidence(program, 0, (), ("sound", ("by", 0), rows)), right)

    def test_whatever_is_judged(self):
        for program, at in ((SPECIAL, 1), (WITHOUT, 1)):
            for value in (*NOTHINGS, *deep_things()):
                for evidence in (value, (value,), ("sound", value, ()), ("sound", ("split", 0, (("by", 0), ("by", 1))), (value,)),
                                 ("stuck", value, ()), ("stuck", (value,), ()), ("stuck", (nxt(ZERO),), value),
                                 (value, value, value),
                                 ("sound", value, value), ("stuck", (ZERO,), (value,))):
                    self.assertIs(is_use_evidence(program, at, (), evidence), False)


def by_one(tree):
    """The tree that goes down at its last trees, with leaves by 1."""
    variables = []
    while tree[0] == "split":
        variables.append(tree[1])
        tree = tree[2][1]
    tree = ("by", 1)
    for variable in variables[::-1]:
        tree = ("split", variable, (("by", 1), tree))
    return tree


class Point96(unittest.TestCase):
    def test_wrong_arguments(self):
        calls = (joint_case, use_evidence, lambda p, n, path: is_use_evidence(p, n, path, None))
        for function in calls:
            for program in (*NOTHINGS, *deep_things(), list(SPECIAL), (NUMBERS, (), ())):
                bad(self, "program", function, program, None, None)
            for at in (*deep_things(), None, True, False, -1, 3, "0", (0,), [0], 10 ** 30):
                bad(self, "number", function, SPECIAL, at, None)
            for path in (*[value for value in NOTHINGS if value != ()], *deep_things(), [], [0], (0,), (-1,), (True,), (0, 0),
                         ("0",), 0):
                bad(self, "path", function, SPECIAL, 1, path)
            # The body is no use, or what stands there is none.
            bad(self, "path", function, SPECIAL, 2, ())
            bad(self, "path", function, EXAMPLE, 3, ())
            bad(self, "path", function, EXAMPLE, 3, (False,))
            bad(self, "path", function, EXAMPLE, 3, (0, 0))
            bad(self, "path", function, EXAMPLE, 3, (10 ** 30,))
        for program in (*NOTHINGS, *deep_things(), list(SPECIAL)):
            bad(self, "program", stuck_uses, program)
        self.assertEqual(joint_case(EXAMPLE, 3, (0,))[1], (nxt(nxt(0)), 0))

    def test_meets_of_60_and_61_places(self):
        program = large_fits(2, (INT, 0))
        meet = plain_programs.parts_of_joint(program, 0, ())[3]
        self.assertEqual([row[2] for row in meet if row[:2] == (0, 1)], [])
        fits = joint_case(program, 0, ())[2]
        self.assertEqual(plain_cases.size(plain_cases.meet(fits[0], fits[1])), 60)
        # The fits do not meet where the joint case is.
        self.assertEqual(use_evidence(program, 0, ()), ("sound", ("by", 2), ((1, 2, ("by", 1)),)))
        self.assertIs(is_use_evidence(program, 0, (), use_evidence(program, 0, ())), True)
        self.assertEqual(stuck_uses(program), ())
        program = large_fits(3, (INT, 0))
        too_large(self, "terms", use_evidence, program, 0, ())
        too_large(self, "terms", stuck_uses, program)
        for evidence in (("sound", ("by", 2), ((1, 2, ("by", 1)),)), ("sound", ("by", 2), ()),
                         ("sound", ("by", 2), ((0, 1, ("by", 2)),))):
            self.assertIs(is_use_evidence(program, 0, (), evidence), False)

    def test_the_meet_with_the_joint_case_is_large(self):
        program = large_fits(2, (0, 1))
        too_large(self, "terms", use_evidence, program, 0, ())
        too_large(self, "terms", stuck_uses, program)
        long = chain("ptr", 8, INT)
        value = plain_cases.put((spine(5), 0), {0: long})
        self.assertIs(is_use_evidence(program, 0, (), ("stuck", value, ())), True)
        for rows in ((), ((0, 1, ("by", 2)), (0, 2, ("by", 0)), (1, 2, ("by", 1)))):
            self.assertIs(is_use_evidence(program, 0, (), ("sound", ("by", 2), rows)), False)
        # Not even if a taker has all of it.
        taken = (*program[:2], (*program[2], ("F", (pair(0, 1), 2), INT)))
        too_large(self, "terms", use_evidence, taken, 0, ())
        rows = ((0, 1, ("by", 0)), (0, 2, ("by", 0)), (1, 2, ("by", 2)))
        self.assertIs(is_use_evidence(taken, 0, (), ("sound", ("by", 3), rows)), False)
        smaller = (*taken[:2], (*taken[2][:2], ("G", (0, chain("ptr", 3, 1)), 0), *taken[2][3:]))
        self.assertIs(is_use_evidence(smaller, 0, (), ("sound", ("by", 3), rows)), True)

    def test_the_first_that_is_not_covered_ends_it(self):
        """The joint case comes before the rows, and the rows are looked at in order."""
        program = large_fits(3, (INT, 0))
        without = (*program[:2], program[2][:3])
        self.assertEqual(use_evidence(without, 0, ())[0], "stuck")
        self.assertEqual(stuck_uses(without), ((0, ()),))
        # Here a pair before the one with the large meet is not covered.
        rows = (("G", (0, pair(1, 2)), 0), ("G", (INT, 0), 0))
        first = (*program[:2], (program[2][0], *rows, *program[2][1:]))
        self.assertEqual(use_evidence(first, 0, ())[0], "stuck")
        behind = (*program[:2], (*program[2], *rows))
        too_large(self, "terms", use_evidence, behind, 0, ())
        # A use that is listed before raises it.
        twice = large_fits(3, (INT, ("G", 0, 1)))
        too_large(self, "terms", stuck_uses, twice)

    def test_large_trees(self):
        program = letters(5)
        kinds, case, table = joint_case(program, 0, ())
        told = cover_evidence(program[0], kinds, case, table, tuple(range(len(table))))
        self.assertEqual(len(leaves_of(told[1])), 284)
        self.assertEqual(use_evidence(program, 0, ())[0], "stuck")
        self.assertIs(accepts_cover(program[0], kinds, case, table, (0, 1, 2, 3, 4), told), True)
        program = letters(6)
        too_large(self, "cases", use_evidence, program, 0, ())
        too_large(self, "cases", stuck_uses, program)

    def test_told_values_of_400_and_401_places(self):
        program = great_values(1)
        told = use_evidence(program, 0, ())
        self.assertEqual((told[0], plain.places(told[1][0])), ("stuck", 400))
        self.assertIs(is_use_evidence(program, 0, (), told), True)
        program = great_values(2)
        too_large(self, "value", use_evidence, program, 0, ())
        self.assertEqual(stuck_uses(program), ((0, ()),))
        self.assertIs(is_use_evidence(program, 0, (), ("stuck", (("wrap", told[1][0]),), ())), False)

    def test_twelve_definitions_of_both(self):
        """Eleven takers and twelve fits, three parameters each."""
        generics = (("F", (0, 0, 0), 0), ("G", (0, 0, 0), 0))
        here = [("F", (chain("next", many, ZERO), 0, 1), ZERO) for many in range(10)]
        program = (NUMBERS, generics, (("F", (0, 1, 2), ("F", 0, 1, 2)), *here, ("F", (0, ZERO, 1), 0)))
        kinds, case, table = joint_case(program, 0, ())
        self.assertEqual((kinds, case, len(table)), ((0,) * 6, (0, 1, 2, 0, 1, 2), 23))
        told = use_evidence(program, 0, ())
        self.assertEqual(told[0], "sound")
        self.assertEqual(len(told[2]), 11 + 10)
        self.assertIs(is_use_evidence(program, 0, (), told), True)
        self.assertEqual(stuck_uses(program), ())
        long = (NUMBERS, (("F", (0,), 0),), (("F", (chain("next", 11, 0),), chain("F", 11, 0)),))
        self.assertEqual(len(stuck_uses(long)), 11)


class Point97(unittest.TestCase):
    def test_example(self):
        self.assertEqual(joint_case(SPECIAL, 1, ()), ((0, 0), (0, 0), ((ZERO, 0), (0, nxt(1)))))
        self.assertEqual(use_evidence(SPECIAL, 1, ()), ("sound", ("split", 0, (("by", 0), ("by", 1))), ()))
        self.assertEqual(stuck_uses(SPECIAL), ())
        self.assertEqual(use_evidence(WITHOUT, 1, ()), ("stuck", (ZERO,), ()))
        self.assertEqual(stuck_uses(WITHOUT), ((1, ()),))
        self.assertIs(is_use_evidence(WITHOUT, 1, (), ("stuck", (ZERO,), ())), True)
        self.assertIs(is_use_evidence(SPECIAL, 1, (), ("stuck", (ZERO,), ())), False)


if __name__ == "__main__":
    unittest.main()
