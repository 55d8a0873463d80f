"""Points 150 to 152 and 155: modules, what units reach, see and have."""

import random
import unittest

from closestfit.kinds import is_signature
from closestfit.modules import cut_signature, is_modules, program_of, reached_by
from closestfit.programs import is_program
from tests import plain_units
from tests.makers import much_changed
from tests.programs import EXAMPLE, some_programs, some_spread_programs
from tests.samples import NOTHINGS, NUMBERS, TYPES, bad, deep_things

# Two closed kinds and an open one: numbers, lists of whatever is open, and boxes.
SIGNATURE = (("closed", (("zero", ()), ("next", (0,)))), ("closed", (("nil", ()), ("cons", (2, 1)))),
             ("open", (("box", (0,)), ("list", (1,)), ("any", ()))))
GENERICS = (("Size", (1,), 0), ("Open", (2,), 2))
DEFINITIONS = (("Size", (("nil",),), ("zero",)), ("Size", (("cons", 0, 1),), ("next", ("Size", 1))),
               ("Open", (("box", 0),), ("box", ("zero",))), ("Open", (0,), ("Open", ("list", ("nil",)))))
PROGRAM = (SIGNATURE, GENERICS, DEFINITIONS)
# Module 0 has numbers, 1 lists, 2 boxes of numbers, 3 the rest; 3 imports 1 and 2, both of these import 0.
IMPORTS = ((), (0,), (0,), (1, 2))
MODULES = (IMPORTS, ((0, 0), (1, 1), (2, 1, 3)), (1, 0), (1, 1, 2, 3))


def with_part(at, part):
    return (*MODULES[:at], part, *MODULES[at + 1:])


class Points150And151(unittest.TestCase):
    def test_modules(self):
        self.assertIs(is_modules(PROGRAM, MODULES), True)
        # All in one module, and in the last one of six.
        self.assertIs(is_modules(PROGRAM, (((),), ((0, 0), (0, 0), (0, 0, 0)), (0, 0), (0, 0, 0, 0))), True)
        self.assertIs(is_modules(PROGRAM, (((),) * 6, ((5, 5), (5, 5), (5, 5, 5)), (5, 5), (5, 5, 5, 5))), True)
        self.assertIs(is_modules(PROGRAM, (((),) * 7, ((5, 5), (5, 5), (5, 5, 5)), (5, 5), (5, 5, 5, 5))), False)
        self.assertIs(is_modules(PROGRAM, ((), ((0, 0), (0, 0), (0, 0, 0)), (0, 0), (0, 0, 0, 0))), False)
        self.assertIs(is_modules((TYPES, (("F", (0,), 0),), ()), (((),), ((0, 0, 0),), (0,), ())), True)

    def test_imports(self):
        for imports, right in ((((), (0,), (0,), (0, 1, 2)), True), (((), (0,), (0, 1), (2, 1)), False),
                               (((), (0,), (0, 2), (1, 2)), False),
                               (((), (0,), (0,), (1, 1)), False), (((), (0,), (0,), (1, 2, 4)), False),
                               (((), (0,), (0,), (1, True, 2)), False),
                               (((), (0,), (0,), [1, 2]), False), ([(), (0,), (0,), (1, 2)], False),
                               (((), (0,), (-1, 0), (1, 2)), False),
                               (((0,), (0,), (0,), (1, 2)), False), (None, False), (((), (0,), (0,), None), False),
                               # In a ring.
                               (((3,), (0,), (0,), (1, 2)), True), (((1,), (2,), (3,), (0,)), True),
                               # What module 3 reaches by 1 or by 2 alone, and module 1 by nothing.
                               (((), (0,), (0,), (2,)), False), (((), (0,), (0,), (1,)), True), (((), (), (0,), (1, 2)), False)):
            self.assertIs(is_modules(PROGRAM, with_part(0, imports)), right, imports)
        # By a False as a module.
        self.assertIs(is_modules(PROGRAM, with_part(0, ((), (False,), (0,), (1, 2)))), False)

    def test_constructors(self):
        for places, right in ((((0, 0), (1, 1), (2, 1, 3)), True), (((0, 0), (1, 1), (2, 3, 3)), True),
                              (((0, 0), (1, 1), (0, 1, 1)), True),
                              # A closed kind is in one module.
                              (((0, 1), (1, 1), (2, 1, 3)), False), (((0, 0), (1, 0), (2, 1, 3)), False),
                              # The module of a constructor reaches those of the closed kinds of its parts.
                              (((0, 0), (1, 1), (2, 2, 3)), False), (((0, 0), (1, 1), (2, 0, 3)), False),
                              (((2, 2), (1, 1), (1, 1, 3)), False),
                              # The module of a generic must reach that, too.
                              (((0, 0), (3, 3), (2, 3, 3)), False),
                              (((0, 0), (1, 1)), False), (((0, 0), (1, 1), (2, 1)), False),
                              (((0, 0), (1, 1), (2, 1, 3, 3)), False),
                              (((0, 0), (1, 1), (2, 1, True)), False), (((0, 0), (1, 1), (2, 1, 4)), False),
                              (((0, 0), (1, 1), (2, 1, -1)), False),
                              (((0, 0), (1, 1), [2, 1, 3]), False), ([(0, 0), (1, 1), (2, 1, 3)], False),
                              (((0, 0), (1, 1), None), False)):
            self.assertIs(is_modules(PROGRAM, with_part(1, places)), right, places)

    def test_each_place_of_constructors_alone(self):
        """Without definitions, so that nothing else asks for something."""
        program = (SIGNATURE, (("Open", (2,), 2),), ())
        for places, right in ((((0, 0), (1, 1), (2, 1, 3)), True), (((0, 0), (1, 1), (0, 1, 0)), True),
                              (((0, 0), (1, 1), (2, 2, 3)), False),
                              (((2, 2), (1, 1), (2, 1, 3)), True), (((2, 2), (1, 1), (3, 1, 3)), True),
                              (((2, 2), (1, 1), (1, 1, 3)), False),
                              (((3, 3), (3, 3), (3, 3, 0)), True), (((0, 0), (0, 1), (2, 1, 3)), False)):
            self.assertIs(is_modules(program, (IMPORTS, places, (0,), ())), right, places)

    def test_generics(self):
        for places, right in (((1, 0), True), ((3, 0), False), ((2, 0), False), ((0, 0), False), ((1, 3), False), ((1,), False),
                              ((1, 0, 0), False),
                              ((1, True), False), ((1, False), False), ([1, 0], False), (None, False), ((1, 4), False),
                              ((1, None), False)):
            self.assertIs(is_modules(PROGRAM, with_part(2, places)), right, places)
        program = (SIGNATURE, GENERICS, ())
        for places, right in (((1, 0), True), ((3, 0), True), ((2, 0), False), ((0, 0), False), ((1, 3), True), ((1, 2), True)):
            self.assertIs(is_modules(program, (IMPORTS, MODULES[1], places, ())), right, places)
        # What it comes to counts, too.
        back = (SIGNATURE, (("Make", (0,), 1), ("Name", (2,), 0)), ())
        for places, right in (((1, 0), True), ((0, 0), False), ((2, 0), False), ((3, 3), True)):
            self.assertIs(is_modules(back, (IMPORTS, MODULES[1], places, ())), right, places)

    def test_definitions(self):
        for places, right in (((1, 1, 2, 3), True), ((3, 3, 3, 3), True), ((0, 1, 2, 3), False), ((2, 1, 2, 3), False),
                              ((1, 0, 2, 3), False),
                              ((1, 1, 0, 3), False), ((1, 1, 1, 3), False),
                              # Its pattern has no name; its body alone names what modules 0 and 2 do not reach.
                              ((1, 1, 2, 1), True), ((1, 1, 2, 0), False), ((1, 1, 2, 2), False),
                              ((1, 1, 2), False), ((1, 1, 2, 3, 3), False), ((1, 1, 2, True), False), ((1, True, 2, 3), False),
                              ([1, 1, 2, 3], False), (None, False), ((1, 1, 2, 4), False), ((1, 1, 2, -1), False)):
            self.assertIs(is_modules(PROGRAM, with_part(3, places)), right, places)
        # The generic in a body.
        program = (SIGNATURE, GENERICS, (("Size", (0,), ("Size", 0)), ("Open", (("any",),), ("box", ("Size", ("nil",))))))
        for places, right in (((1, 3), True), ((1, 1), False), ((1, 2), False)):
            self.assertIs(is_modules(program, (IMPORTS, MODULES[1], (1, 0), places)), right)

    def test_as_the_points_read(self):
        rights = 0
        for dice, program, modules in some_spread_programs(150, 150):
            self.assertIs(is_modules(program, modules), True)
            self.assertIs(plain_units.is_modules(program, modules), True)
            for value in much_changed(modules, dice, 12):
                right = plain_units.is_modules(program, value)
                self.assertIs(is_modules(program, value), right)
                rights += right
        self.assertGreater(rights, 100)

    def test_modules_of_other_programs(self):
        dice = random.Random(151)
        rights = wrongs = 0
        for _, program in some_programs(150, 151, most=4):
            for _ in range(6):
                many = dice.randint(1, 3)
                imports = tuple(tuple(far for far in range(many) if far != near and dice.random() < 0.5) for near in range(many))
                value = (imports, *[tuple(dice.randrange(many) for _ in row) for row in ((), (), ())])
                places = tuple(tuple(dice.randrange(many) if how == "open" else here for _ in row)
                               for how, row in program[0] for here in [dice.randrange(many)])
                value = (imports, places, tuple(dice.randrange(many) for _ in program[1]),
                         tuple(dice.randrange(many) for _ in program[2]))
                right = plain_units.is_modules(program, value)
                self.assertIs(is_modules(program, value), right)
                rights, wrongs = rights + right, wrongs + (not right)
        self.assertGreater(min(rights, wrongs), 100)

    def test_whatever_is_handed_in(self):
        for value in (*NOTHINGS, *deep_things()):
            self.assertIs(is_modules(PROGRAM, value), False)
            self.assertIs(is_modules(PROGRAM, (value,) * 4), False)
            for at in range(4):
                self.assertIs(is_modules(PROGRAM, with_part(at, value)), False)
                if type(value) is not int:
                    self.assertIs(is_modules(PROGRAM, with_part(at, (value, *MODULES[at][1:]))), at == 0 and value == ())
        self.assertIs(is_modules(PROGRAM, list(MODULES)), False)
        self.assertIs(is_modules(PROGRAM, MODULES[:3]), False)
        self.assertIs(is_modules(PROGRAM, (*MODULES, ())), False)
        for value in NOTHINGS:
            bad(self, "program", is_modules, value, MODULES)


class Point152(unittest.TestCase):
    def test_reached(self):
        for unit, right in (((), ()), ((0,), (0,)), ((1,), (0, 1)), ((2,), (0, 2)), ((3,), (0, 1, 2, 3)), ((1, 2), (0, 1, 2)),
                            ((0, 3), (0, 1, 2, 3))):
            self.assertEqual(reached_by(PROGRAM, MODULES, unit), right)
        ring = ((1,), (2,), (0,), ())
        program = (TYPES, (("F", (0,), 0),), ())
        modules = (ring, ((0, 0, 0),), (0,), ())
        for unit, right in (((0,), (0, 1, 2)), ((1,), (0, 1, 2)), ((2,), (0, 1, 2)), ((3,), (3,)), ((2, 3), (0, 1, 2, 3))):
            self.assertEqual(reached_by(program, modules, unit), right)

    def test_programs_of_units(self):
        for unit, numbers in (((), ()), ((0,), ()), ((1,), (0, 1)), ((2,), (2,)), ((1, 2), (0, 1, 2)), ((3,), (0, 1, 2, 3))):
            part = program_of(PROGRAM, MODULES, unit)
            self.assertEqual(part, (SIGNATURE, GENERICS, tuple(DEFINITIONS[number] for number in numbers)))
            self.assertIs(is_program(part), True)

    def test_as_the_point_reads(self):
        for _, program, modules in some_spread_programs(120, 152):
            for unit in plain_units.all_units(modules):
                self.assertEqual(reached_by(program, modules, unit), tuple(sorted(plain_units.reach(modules[0], unit))))
                self.assertEqual(program_of(program, modules, unit), plain_units.program_of(program, modules, unit))


class Point155(unittest.TestCase):
    def test_cut_signatures(self):
        none = ("open", ())
        self.assertEqual(cut_signature(PROGRAM, MODULES, ()), (none, none, none))
        self.assertEqual(cut_signature(PROGRAM, MODULES, (0,)), (SIGNATURE[0], none, none))
        # By module 1 there are lists: of boxes with lists.
        self.assertEqual(cut_signature(PROGRAM, MODULES, (1,)), (SIGNATURE[0], SIGNATURE[1], ("closed", (("list", (1,)),))))
        self.assertEqual(cut_signature(PROGRAM, MODULES, (2,)), (SIGNATURE[0], none, ("closed", (("box", (0,)),))))
        self.assertEqual(cut_signature(PROGRAM, MODULES, (3,)), (SIGNATURE[0], SIGNATURE[1], ("closed", SIGNATURE[2][1])))

    def test_a_constructor_with_a_part_of_an_empty_kind(self):
        """It goes, too: of a closed kind, whose module is reached, as well."""
        signature = (("open", (("wrap", (0,)), ("seed", ()))), ("closed", (("only", (0,)), ("both", (0, 1)))),
                     ("open", (("hold", (1,)),)))
        program = (signature, (("F", (0,), 0),), ())
        modules = (((), (0,)), ((0, 1), (0, 0), (0,)), (0,), ())
        self.assertIs(is_modules(program, modules), True)
        self.assertEqual(cut_signature(program, modules, (0,)), (("open", ()), ("open", ()), ("open", ())))
        self.assertEqual(cut_signature(program, modules, (1,)),
                         (("closed", signature[0][1]), signature[1], ("closed", signature[2][1])))
        # With a constructor that does not need it, the kind stays without the others.
        signature = (signature[0], ("closed", (("only", (0,)), ("no", ()))), signature[2])
        self.assertEqual(cut_signature((signature, program[1], ()), modules, (0,)),
                         (("open", ()), ("closed", (("no", ()),)), ("closed", (("hold", (1,)),))))

    def test_open_kinds_without_a_constructor(self):
        program = ((("open", ()), ("closed", (("one", ()), ("with", (0,))))), (("F", (0,), 1),), (("F", (0,), ("one",)),))
        modules = (((),), ((), (0, 0)), (0,), (0,))
        self.assertIs(is_modules(program, modules), True)
        self.assertEqual(cut_signature(program, modules, (0,)), (("open", ()), ("closed", (("one", ()),))))

    def test_as_the_point_reads(self):
        shapes = {}
        for _, program, modules in some_spread_programs(250, 155):
            for unit in plain_units.all_units(modules)[:20]:
                told = cut_signature(program, modules, unit)
                self.assertEqual(told, plain_units.cut_signature(program, modules, unit))
                self.assertIs(is_signature(told), True)
                for (how, row), (_, whole) in zip(told, program[0]):
                    self.assertEqual(how == "closed", len(row) > 0)
                    shapes[len(row) < len(whole), how] = True
        self.assertEqual(len(shapes), 4)


class Point161(unittest.TestCase):
    def test_the_first_wrong_argument_is_named(self):
        wrong_modules = (None, (), [], 0, True, list(MODULES), MODULES[:3], with_part(0, ((), (0,), (0,), (2,))),
                         with_part(3, (1, 1, 2)))
        wrong_units = (None, 0, [0], (4,), (-1,), (1, 0), (0, 0), (True,), (0, True), (None,), "0", {}, ((0,),), (0, 1, 2, 3, 4))
        for function in (reached_by, program_of, cut_signature):
            for wrong in NOTHINGS:
                bad(self, "program", function, wrong, None, None)
            for wrong in wrong_modules:
                bad(self, "modules", function, PROGRAM, wrong, None)
            for wrong in wrong_units:
                bad(self, "unit", function, PROGRAM, MODULES, wrong)
            for thing in deep_things():
                bad(self, "program", function, thing, MODULES, ())
                bad(self, "modules", function, PROGRAM, thing, ())
                bad(self, "unit", function, PROGRAM, MODULES, thing)
        bad(self, "modules", reached_by, EXAMPLE, MODULES, ())
        bad(self, "modules", reached_by, (NUMBERS, (("F", (0,), 0),), ()), MODULES, ())


if __name__ == "__main__":
    unittest.main()
