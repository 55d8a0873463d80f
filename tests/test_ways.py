"""Points 147 to 149: parts of programs, and the definitions on the ways of uses."""

import unittest

from closestfit.definitions import read_program
from closestfit.programs import is_program
from closestfit.records import done_evidence
from closestfit.ways import definitions_on, program_part
from tests import plain_programs, plain_views
from tests.programs import EXAMPLE, SPECIAL, ZERO, fitting_use, lively_program, number, nxt, small_use, some_programs
from tests.samples import NOTHINGS, NUMBERS, TYPES, bad, chain, deep_things, not_possible, too_large
from tests.test_clear import told_or_word


def some_asked(many, seed):
    """Triples of dice, program and a tuple of uses."""
    for at, (dice, program) in enumerate(some_programs(many, seed)):
        if at % 4:
            program = lively_program(dice)
        make = fitting_use if at % 2 else small_use
        yield dice, program, tuple(make(program, dice) for _ in range(dice.randint(0, 3)))


class Point147(unittest.TestCase):
    def test_parts_of_programs(self):
        signature, generics, definitions = EXAMPLE
        for numbers in ((), (0,), (1, 3, 7), tuple(range(len(definitions)))):
            part = program_part(EXAMPLE, numbers)
            self.assertEqual(part, (signature, generics, tuple(definitions[n] for n in numbers)))
            self.assertIs(is_program(part), True)
        self.assertEqual(program_part((NUMBERS, generics, ()), ()), (NUMBERS, generics, ()))

    def test_wrong_numbers(self):
        for wrong in (None, [], [0], 0, "0", (8,), (0, 8), (-1,), (1, 0), (0, 0), (True,), (0, True), (None,), ((0,),), {}):
            bad(self, "numbers", program_part, EXAMPLE, wrong)
        for wrong in NOTHINGS:
            bad(self, "program", program_part, wrong, wrong)
            bad(self, "program", definitions_on, wrong, wrong)

    def test_definitions_on_the_way(self):
        # Add of two and one does three uses of two definitions; Pick of zero and one ends with "none" behind others.
        self.assertEqual(definitions_on(EXAMPLE, (("Add", number(2), number(1)),)), (0, 1))
        self.assertEqual(definitions_on(EXAMPLE, (("Add", ZERO, number(1)),)), (0,))
        self.assertEqual(definitions_on(EXAMPLE, (("Pick", ZERO, number(2)),)), (0, 4))
        self.assertEqual(definitions_on(EXAMPLE, (("Half", number(1)),)), ())
        self.assertEqual(definitions_on(EXAMPLE, (("Half", number(3)),)), (3,))
        self.assertEqual(definitions_on(EXAMPLE, (("Spin", ZERO),)), (2, 7))
        self.assertEqual(done_evidence(EXAMPLE, ("Spin", ZERO))[0], "round")
        self.assertEqual(definitions_on(EXAMPLE, ()), ())
        self.assertEqual(definitions_on(SPECIAL, (("Twice", nxt(ZERO)),)), (0, 1))

    def test_several_uses(self):
        uses = (("Spin", ZERO), ("Half", number(2)), ("Add", ZERO, ZERO), ("Spin", ZERO), ("Half", number(1)), ("Half", ZERO))
        self.assertEqual(definitions_on(EXAMPLE, uses), (0, 2, 3, 7))
        self.assertEqual(definitions_on(EXAMPLE, uses[1:3]), (0, 2, 3))
        bad(self, "uses", definitions_on, EXAMPLE, (*uses, ("Half", ZERO)))
        self.assertEqual(definitions_on(EXAMPLE, uses[:1] * 6), (2, 7))
        bad(self, "uses", definitions_on, EXAMPLE, uses[:1] * 7)

    def test_as_the_point_reads(self):
        words = {}
        for _, program, uses in some_asked(500, 147):
            told = told_or_word(definitions_on, program, uses)
            self.assertEqual(told, plain_views.definitions_on(program, uses))
            word = told if isinstance(told, str) else "not" if told[:1] == ("not",) else len(told) > 0
            words[word] = words.get(word, 0) + 1
        self.assertGreater(min(words.get(word, 0) for word in ("not", True, False)), 10)


class Point148(unittest.TestCase):
    def test_the_least_part_with_the_same_evidence(self):
        many = 0
        for dice, program, uses in some_asked(300, 148):
            told = told_or_word(definitions_on, program, uses)
            if isinstance(told, str) or told[:1] == ("not",):
                continue
            for _ in range(3):
                numbers = {n for n in range(len(program[2])) if dice.random() < 0.5} | (set(told) if dice.random() < 0.6 else set())
                part = program_part(program, tuple(sorted(numbers)))
                same = all(told_or_word(done_evidence, part, use) == done_evidence(program, use) for use in uses)
                self.assertIs(same, numbers >= set(told))
                many += same and len(numbers) < len(program[2])
        self.assertGreater(many, 40)

    def test_the_same_value_by_other_rows(self):
        """By a part that lacks one of them a use can come to the same value."""
        generics = (("F", (0,), 0),)
        program = (NUMBERS, generics, (("F", (0,), 0), ("F", (ZERO,), ZERO)))
        self.assertEqual(definitions_on(program, (("F", ZERO),)), (1,))
        part = program_part(program, (0,))
        self.assertEqual(done_evidence(part, ("F", ZERO))[1][-1][2], done_evidence(program, ("F", ZERO))[1][-1][2])
        self.assertNotEqual(done_evidence(part, ("F", ZERO)), done_evidence(program, ("F", ZERO)))


class Point149(unittest.TestCase):
    def test_uses_that_come_to_two(self):
        two = ("Pick", number(1), number(1))
        self.assertEqual(done_evidence(EXAMPLE, two)[0], "two")
        not_possible(self, "two", definitions_on, EXAMPLE, (two,))
        not_possible(self, "two", definitions_on, EXAMPLE, (("Half", ZERO), two))

    def test_uses_that_are_too_large_and_their_order(self):
        generics = (("F", (0,), 0), ("G", (0, 0), 0))
        program = (TYPES, generics, (("F", (0,), ("F", ("ptr", 0))), ("G", (("ptr", 0), 1), 0), ("G", (0, ("ptr", 1)), 0)))
        large = ("F", ("ptr", ("#", 0)))
        two = ("G", ("ptr", ("int",)), ("ptr", ("int",)))
        too_large(self, "rows", definitions_on, program, (large,))
        too_large(self, "rows", definitions_on, program, (large, two))
        not_possible(self, "two", definitions_on, program, (two, large))
        growing = (TYPES, generics[:1], (("F", (0,), ("F", ("pair", 0, 0))),))
        too_large(self, "value", definitions_on, growing, (("F", ("int",)),))
        # Sixty uses are not too many, whether the last one has a definition or not.
        down, end = ("F", (("ptr", 0),), ("F", 0)), ("F", (("int",),), ("int",))
        for definitions, right in (((down,), (0,)), ((down, end), (0, 1))):
            self.assertEqual(definitions_on((TYPES, generics, definitions), (("F", chain("ptr", 59, ("int",))),)), right)

    def test_wrong_uses(self):
        right = ("Half", ZERO)
        for wrong in (None, 0, "Half", [right], [], {}, (None,), (right, None), (right, 0), (("Half",),), (("Half", 0),),
                      (("half", ZERO),),
                      (("Half", ZERO, ZERO),), (["Half", ZERO],), (("Half", ("#", 0)),), (("Half", number(60)),), (True,), right):
            bad(self, "uses", definitions_on, EXAMPLE, wrong)
        for thing in deep_things():
            for wrong in (thing, (thing,), (right, thing), (("Half", thing),)):
                bad(self, "uses", definitions_on, EXAMPLE, wrong)

    def test_the_first_wrong_argument_is_named(self):
        bad(self, "program", definitions_on, None, None)
        bad(self, "program", program_part, (NUMBERS, (), ()), None)
        bad(self, "uses", definitions_on, EXAMPLE, (("Pick", number(1), number(1)), None))
        self.assertIsNotNone(read_program(EXAMPLE))
        self.assertIs(plain_programs.is_program(EXAMPLE), True)


if __name__ == "__main__":
    unittest.main()
