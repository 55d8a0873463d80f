"""Points 86 to 92 and 96: programs, their uses, steps, paths, and flat programs."""

import unittest

from closestfit.programs import chosen, first_unflat, is_program, is_use, step, uses_in
from tests import plain_cases, plain_programs
from tests.makers import much_changed
from tests.programs import EXAMPLE, SPECIAL, ZERO, fitting_use, nxt, number, some_programs, some_use
from tests.samples import MIXED, NOTHINGS, NUMBERS, TYPES, bad, chain, deep_things, not_possible

ADD = (("Add", (0, 0), 0),)
FIRST_ADD, NEXT_ADD = ("Add", (ZERO, 0), 0), ("Add", (nxt(0), 1), nxt(("Add", 0, 1)))
PLUS = (NUMBERS, ADD, (FIRST_ADD, NEXT_ADD))


def some_definitions(name, many):
    """So many definitions of a generic of one parameter, with different patterns."""
    patterns = [chain("next", i, ZERO) for i in range(11)] + [nxt(0), 0]
    return tuple((name, (pattern,), ZERO) for pattern in patterns[:many])


class Points86To88(unittest.TestCase):
    def test_programs(self):
        for program in (PLUS, SPECIAL, EXAMPLE, (NUMBERS, ADD, ()), (TYPES, (("A", (0,), 0),), (("A", (0,), ("ptr", 0)),))):
            self.assertIs(is_program(program), True)

    def test_all_shapes_and_what_is_changed_in_them(self):
        right = wrong = 0
        for dice, program in some_programs(120, 86):
            self.assertIs(is_program(program), True)
            others = [(program[0], program[1], new) for new in much_changed(program[2], dice, 8)]
            for value in (*much_changed(program, dice, 8), *others):
                told = is_program(value)
                self.assertIs(told, plain_programs.is_program(value))
                right += told
                wrong += not told
        self.assertGreater(min(right, wrong), 40)

    def test_generics(self):
        def judge(*generics):
            return is_program((NUMBERS, generics, ()))
        for name in ("A", "Z", "Ab", "Abcdefgh", "Zz"):
            self.assertIs(judge((name, (0,), 0)), True)
        for name in ("", "a", "AB", "Abcdefghi", "A1", "1", "A ", "A\n", "Add\n", "\u00c4", "A\u00e4", None, 0, True, ("A",),
                     ["A"], b"A", "#"):
            self.assertIs(judge((name, (0,), 0)), False)
        for kinds, right in (((0,), True), ((0, 1, 0), True), ((), False), ((0, 0, 0, 0), False), ((2,), False), ((-1,), False),
                             ((True,), False), ([0], False), (0, False), (None, False), ((None,), False), (((0,),), False)):
            self.assertIs(judge(("A", kinds, 0)), right)
        for kind, right in ((0, True), (1, True), (2, False), (-1, False), (True, False), (None, False), ((0,), False),
                            ("0", False)):
            self.assertIs(judge(("A", (0,), kind)), right)
        for generic in (["A", (0,), 0], ("A", (0,)), ("A", (0,), 0, 0), None, (), "A"):
            self.assertIs(judge(generic), False)
        names = "ABCDE"
        for many, right in ((0, False), (1, True), (4, True), (5, False)):
            self.assertIs(judge(*[(name, (0,), 0) for name in names[:many]]), right)
        self.assertIs(judge(("A", (0,), 0), ("A", (1,), 1)), False)
        self.assertIs(is_program((NUMBERS, [("A", (0,), 0)], ())), False)

    def test_numbers_of_definitions(self):
        generics = (("A", (0,), 0), ("B", (0,), 0))
        for one, other, right in ((0, 0, True), (12, 4, True), (4, 12, True), (8, 8, True), (12, 5, False), (13, 0, False),
                                  (0, 13, False),
                                  (9, 8, False)):
            rows = (*some_definitions("A", one), *some_definitions("B", other))
            self.assertEqual(len(rows), one + other)
            self.assertIs(is_program((NUMBERS, generics, rows)), right)
            self.assertIs(is_program((NUMBERS, generics, list(rows))), False)

    def test_equal_patterns(self):
        generics = (("A", (0,), 0), ("B", (0,), 0))
        self.assertIs(is_program((NUMBERS, generics, (("A", (0,), 0), ("B", (0,), 0)))), True)
        self.assertIs(is_program((NUMBERS, generics, (("A", (0,), 0), ("A", (0,), ZERO)))), False)
        self.assertIs(is_program((NUMBERS, generics, (("A", (0,), 0), ("B", (0,), 0), ("A", (nxt(0),), 0), ("A", (0,), 0)))), False)

    def test_definitions(self):
        def judge(*definition):
            return is_program((NUMBERS, (("A", (0, 1), 0), ("B", (0,), 1)), (definition,)))
        for body in (0, ZERO, nxt(0), ("A", 0, 1), ("A", 0, ("B", 0)), ("A", ("A", nxt(0), 1), ("box", 0)), nxt(("A", ZERO, 1))):
            self.assertIs(judge("A", (0, 1), body), True)
        for body in (1, 2, -1, True, False, None, "zero", ("zero", 0), ("next",), ("next", 1), ("box", 0), ("B", 0), ("A", 0),
                     ("A", 1, 0),
                     ("A", 0, 1, 1), ("A",), ("A", 0, ("B", 1)), ("C", 0), ["next", 0], nxt([0]), ("#", 0), nxt(("#", 0)), (),
                     (0,), ("a", 0),
                     ("Add", 0, 1), ("A", 0, ("#", 0)), ((), 0), (None, 0), nxt(True)):
            self.assertIs(judge("A", (0, 1), body), False)
        for pattern in ((0,), (0, 1, 2), [0, 1], (1, 0), (0, 0), (0, True), (("A", 0, 1), 2), (("#", 0), 0), None, (0, ("zero",))):
            self.assertIs(judge("A", pattern, ZERO), False)
        for name in ("C", "a", "", None, 0, ("A",), ["A"], "zero"):
            self.assertIs(judge(name, (0, 1), ZERO), False)
        self.assertIs(judge("A", (0, 1)), False)
        self.assertIs(judge("A", (0, 1), ZERO, 0), False)
        self.assertIs(is_program((NUMBERS, ADD, (["Add", (0, 1), 0],))), False)

    def test_places_of_patterns_and_bodies(self):
        """12 and 13 of them; constructors, variables and uses are counted."""
        one = (("A", (0,), 0),)
        for many, right in ((10, True), (11, True), (12, False), (15, False), (16, False)):
            self.assertIs(is_program((NUMBERS, one, (("A", (chain("next", many, 0),), 0),))), right)
            self.assertIs(is_program((NUMBERS, one, (("A", (0,), chain("next", many, 0)),))), right)
            self.assertIs(is_program((NUMBERS, one, (("A", (0,), chain("A", many, ZERO)),))), right)
            self.assertIs(is_program((NUMBERS, one, (("A", (0,), chain("A", many // 2, chain("next", many - many // 2, 0))),))),
                          right)
        wide = (("open", (("int", ()), ("pair", (0, 0)))),)
        body = ("pair", ("pair", ("pair", 0, 0), ("pair", 0, 0)), ("pair", 0, 0))
        self.assertIs(is_program((wide, one, (("A", (0,), body),))), True)
        self.assertIs(is_program((wide, one, (("A", (0,), ("pair", body, 0)),))), False)

    def test_other_values(self):
        for value in (*NOTHINGS, *deep_things(), list(PLUS), (NUMBERS, ADD), (*PLUS, ()), (list(NUMBERS), *PLUS[1:]),
                      (NUMBERS, (), ()),
                      (NUMBERS, ADD, None), (None, ADD, ())):
            self.assertIs(is_program(value), False)
        for value in deep_things():
            self.assertIs(is_program((value, ADD, ())), False)
            self.assertIs(is_program((NUMBERS, value, ())), False)
            self.assertIs(is_program((NUMBERS, (("A", value, 0),), ())), False)
            self.assertIs(is_program((NUMBERS, ADD, value)), False)
            self.assertIs(is_program((NUMBERS, ADD, (value,))), False)
            self.assertIs(is_program((NUMBERS, ADD, (("Add", value, 0),))), False)
            self.assertIs(is_program((NUMBERS, ADD, (("Add", (0, 1), value),))), False)
            self.assertIs(is_program((NUMBERS, ADD, (("Add", (0, 1), nxt(value)),))), False)
            self.assertIs(is_program((NUMBERS, ADD, ((value, (0, 1), 0),))), False)


class Point89(unittest.TestCase):
    def test_uses(self):
        for use in (("Add", ZERO, ZERO), ("Add", number(59), number(59)), ("Add", nxt(ZERO), ZERO)):
            self.assertIs(is_use(PLUS, use), True)
        for use in (*NOTHINGS, *deep_things(), ("Add", ZERO), ("Add", ZERO, ZERO, ZERO), ("Add", number(60), ZERO),
                    ("Add", ZERO, number(60)),
                    ["Add", ZERO, ZERO], ("Add", 0, 1), ("Add", ZERO, ("#", 0)), ("Add", ZERO, ("Add", ZERO, ZERO)), ("Half", ZERO),
                    ("Add", ZERO, ("box", ZERO)), ("Add", ZERO, ["zero"]), (ZERO, ZERO), (None, ZERO, ZERO), "Add",
                    ("add", ZERO, ZERO)):
            self.assertIs(is_use(PLUS, use), False)
        for value in deep_things():
            self.assertIs(is_use(PLUS, ("Add", ZERO, value)), False)
            self.assertIs(is_use(PLUS, (value, ZERO, ZERO)), False)
        opened = (TYPES, (("A", (0,), 0),), ())
        for use, right in ((("A", ("#", 3)), True), (("A", ("ptr", ("#", 10 ** 30))), True), (("A", ("#", -1)), False),
                           (("A", ("#", True)), False)):
            self.assertIs(is_use(opened, use), right)

    def test_choices_and_steps_as_the_points_read(self):
        words = {"int": 0, "none": 0, "two": 0}
        for dice, program in some_programs(300, 89):
            for use in [fitting_use(program, dice) for _ in range(6)] + [some_use(program, dice)]:
                if not plain_programs.is_use(program, use):
                    self.assertIs(is_use(program, use), False)
                    continue
                found = chosen(program, use)
                self.assertEqual(found, plain_programs.choice(program, use))
                if isinstance(found, int):
                    words["int"] += 1
                    told = step(program, use)
                    self.assertEqual(told, plain_programs.step(program, use))
                    self.assertEqual(plain_cases.variables_in((told,)), [])
                    self.check_kinds(program, plain_programs.result_of(program, use[0]), told)
                else:
                    word = found if isinstance(found, str) else found[0]
                    words[word] += 1
                    not_possible(self, word, step, program, use)
        self.assertGreater(min(words.values()), 60)

    def check_kinds(self, program, kind, term):
        """Point 91: a step is of the kind of the results, and each argument in it of that of the parameter."""
        if term[0] == "#":
            self.assertEqual(program[0][kind][0], "open")
            return
        parts = dict(program[0][kind][1]).get(term[0])
        if parts is None:
            self.assertEqual(plain_programs.result_of(program, term[0]), kind)
            parts = plain_programs.kinds_of(program, term[0])
        self.assertEqual(len(parts), len(term) - 1)
        for part, inner in zip(parts, term[1:]):
            self.check_kinds(program, part, inner)

    def test_examples(self):
        self.assertEqual(chosen(PLUS, ("Add", ZERO, ZERO)), 0)
        self.assertEqual(chosen(PLUS, ("Add", nxt(ZERO), ZERO)), 1)
        self.assertEqual(step(PLUS, ("Add", nxt(ZERO), number(3))), nxt(("Add", ZERO, number(3))))
        self.assertEqual(chosen(EXAMPLE, ("Pick", number(1), number(1))), ("two", 5, 6))
        self.assertEqual(chosen(EXAMPLE, ("Half", number(1))), "none")
        not_possible(self, "two", step, EXAMPLE, ("Pick", number(1), number(1)))
        not_possible(self, "none", step, EXAMPLE, ("Half", number(1)))
        self.assertEqual(step(EXAMPLE, ("Spin", ZERO)), ("Add", ("Half", ZERO), ("Spin", ZERO)))

    def test_the_numbers_are_those_of_the_program(self):
        """Not those in the table of the generic."""
        program = (NUMBERS, (("A", (0,), 0), ("B", (0, 0), 0)),
                   (("A", (0,), 0), ("B", (nxt(0), 1), 0), ("A", (ZERO,), ZERO), ("B", (0, nxt(1)), 1)))
        self.assertEqual(chosen(program, ("A", ZERO)), 2)
        self.assertEqual(chosen(program, ("A", nxt(ZERO))), 0)
        self.assertEqual(chosen(program, ("B", nxt(ZERO), ZERO)), 1)
        self.assertEqual(chosen(program, ("B", nxt(ZERO), nxt(ZERO))), ("two", 1, 3))
        self.assertEqual(chosen(program, ("B", ZERO, ZERO)), "none")

    def test_large_steps(self):
        wide = (("open", (("int", ()), ("ptr", (0,)), ("pair", (0, 0)))),)
        body = ("pair", ("pair", ("pair", 0, 0), ("pair", 0, 0)), ("pair", 0, 0))
        program = (wide, (("A", (0,), 0),), (("A", (0,), body),))
        value = chain("ptr", 59, ("int",))
        self.assertEqual(step(program, ("A", value)), plain_cases.put((body,), {0: value})[0])
        bad(self, "use", step, program, ("A", ("ptr", value)))

    def test_strangers(self):
        program = (TYPES, (("A", (0, 0), 0),), (("A", (0, 0), 0), ("A", (0, 1), ("A", 1, 1))))
        self.assertEqual(chosen(program, ("A", ("#", 1), ("#", 1))), 0)
        self.assertEqual(step(program, ("A", ("#", 1), ("#", 2))), ("A", ("#", 2), ("#", 2)))


class Point90(unittest.TestCase):
    def test_listed(self):
        body = ("Add", ("Add", 0, nxt(("Add", 0, 0))), ("Add", 0, 0))
        program = (NUMBERS, ADD, (("Add", (0, 0), body), ("Add", (0, 1), nxt(body[1])), ("Add", (ZERO, 0), 0)))
        self.assertEqual(uses_in(program, 0), ((0, 1, 0), (0,), (1,), ()))
        self.assertEqual(uses_in(program, 1), ((0, 1, 0), (0,)))
        self.assertEqual(uses_in(program, 2), ())

    def test_as_the_point_reads(self):
        many = 0
        for _, program in some_programs(150, 90):
            for at in range(len(program[2])):
                told = uses_in(program, at)
                self.assertEqual(told, tuple(plain_programs.listed(program, program[2][at][2])))
                many += len(told)
        self.assertGreater(many, 100)


class Point92(unittest.TestCase):
    def test_as_the_point_reads(self):
        found = {"flat": 0, "pattern": 0, "use": 0}
        for flat in (False, True):
            for _, program in some_programs(150, 92, flat=flat):
                told = first_unflat(program)
                self.assertEqual(told, plain_programs.first_unflat(program))
                found["flat" if told is None else "pattern" if told[1] is None else "use"] += 1
        self.assertGreater(min(found.values()), 10)

    def test_patterns(self):
        two = (("open", (("pair", (0, 0)),)),)
        generics = (("A", (0, 0), 0),)
        for pattern, flat in (((0, 1), True), ((("pair", 0, 1), 2), True), ((("pair", 0, 0), 1), False),
                              ((("pair", 0, 1), 1), False),
                              ((0, 0), False), ((0, ("pair", 1, 2)), False), ((("pair", ("pair", 0, 1), 2), 3), False),
                              ((("pair", 0, ("pair", 1, 2)), 3), False)):
            self.assertEqual(first_unflat((two, generics, (("A", pattern, 0),))), None if flat else (0, None))

    def test_uses(self):
        generics = (("A", (0, 0), 0),)
        for pattern, body, told in (((nxt(0), 1), ("A", 0, 1), None), ((nxt(0), 1), ("A", 1, 0), (0, ())),
                                    ((nxt(0), 1), ("A", nxt(nxt(0)), ("A", 0, 1)), None),
                                    ((nxt(0), 1), ("A", ("A", 0, 0), 0), (0, ())),
                                    ((nxt(0), 1), nxt(("A", ZERO, ("A", nxt(1), 0))), (0, (0, 1))),
                                    ((0, 1), ("A", nxt(0), 1), None),
                                    ((0, 1), ("A", ZERO, ("A", 0, ("A", 0, 1))), None), ((ZERO, 0), ("A", 0, 0), (0, ())),
                                    ((nxt(0), 1), ("A", nxt(("A", 0, 0)), 0), (0, ())),
                                    # The first one that is listed, not the first one from the left.
                                    ((nxt(0), 1), ("A", 1, ("A", 1, 0)), (0, (1,))),
                                    ((nxt(0), 1), ("A", ("A", 1, 0), 0), (0, (0,)))):
            self.assertEqual(first_unflat((NUMBERS, generics, (("A", pattern, body),))), told)

    def test_the_first_definition(self):
        generics = (("A", (0, 0), 0),)
        rows = (("A", (0, 1), 0), ("A", (nxt(0), 1), ("A", 1, 0)), ("A", (0, 0), 0))
        self.assertEqual(first_unflat((NUMBERS, generics, rows)), (1, ()))
        self.assertEqual(first_unflat((NUMBERS, generics, rows[::-1])), (0, None))
        self.assertIsNone(first_unflat((NUMBERS, generics, ())))
        # Of a definition that has both the pattern is told.
        self.assertEqual(first_unflat((NUMBERS, generics, (("A", (0, 0), ("A", ("A", 0, 0), 0)),))), (0, None))


class Point96(unittest.TestCase):
    def test_wrong_arguments(self):
        for program in (*NOTHINGS, *deep_things(), list(PLUS), (NUMBERS, (), ())):
            bad(self, "program", is_use, program, None)
            bad(self, "program", chosen, program, None)
            bad(self, "program", step, program, None)
            bad(self, "program", uses_in, program, None)
            bad(self, "program", first_unflat, program)
        for use in (*NOTHINGS, *deep_things(), ("Add", ZERO), ("Add", number(60), ZERO), ["Add", ZERO, ZERO], ("Add", 0, 1)):
            bad(self, "use", chosen, PLUS, use)
            bad(self, "use", step, PLUS, use)
        for at in (*deep_things(), None, True, False, -1, 2, "0", (0,), [0], 10 ** 30, 0.0):
            bad(self, "number", uses_in, PLUS, at)
        bad(self, "number", uses_in, (NUMBERS, ADD, ()), 0)
        bad(self, "program", step, (NUMBERS, ADD, None), ("Add", ZERO, ZERO))

    def test_a_closed_kind_of_parts(self):
        program = (MIXED, (("A", (2, 0), 1),), (("A", (("yes",), ("leaf", 0)), 0), ("A", (0, 1), ("tree", 1))))
        self.assertEqual(step(program, ("A", ("yes",), ("leaf", ("#", 5)))), ("#", 5))
        self.assertEqual(step(program, ("A", ("no",), ("leaf", ("#", 5)))), ("tree", ("leaf", ("#", 5))))


if __name__ == "__main__":
    unittest.main()
