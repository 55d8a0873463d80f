"""Points 152 to 161: whether units choose as the whole, and what a unit must import for some uses."""

import random
import unittest

from closestfit.clear import is_clear, is_complete
from closestfit.ends import always_value
from closestfit.modules import cut_signature, is_modules, program_of, reached_by
from closestfit.programs import chosen
from closestfit.records import done_evidence
from closestfit.units import (accepts_bare, accepts_imports, accepts_units, bare_evidence, further_imports, units_evidence,
                              wanted_modules)
from closestfit.weights import weights_evidence
from tests import plain, plain_programs, plain_units
from tests.makers import much_changed
from tests.programs import EXAMPLE, ZERO, lively_program, number, nxt, placed, small_use, some_spread_programs
from tests.samples import NOTHINGS, NUMBERS, TYPES, bad, chain, deep_things, not_possible, too_large
from tests.tables import LEAVES, LETTER_KINDS, LETTERS, great_heaps
from tests.test_clear import told_or_word
from tests.test_modules import MODULES, PROGRAM

INT = ("int",)
STAR = ("#", 0)


def ptr(term):
    return ("ptr", term)


# The example behind point 161.
WORDS = (("open", (("int", ()), ("ptr", (0,)))),)
WHOLE = (WORDS, (("Size", (0,), 0),), (("Size", (INT,), INT), ("Size", (ptr(0),), ("Size", 0)), ("Size", (0,), 0)))
SPREAD = (((), (0,)), ((0, 0),), (0,), (0, 0, 1))


def numbers_of_modules(many, *paths):
    """Imports of so many modules along these paths."""
    imports = [set() for _ in range(many)]
    for path in paths:
        for near, far in zip(path, path[1:]):
            imports[near].add(far)
    return tuple(tuple(sorted(row)) for row in imports)


class Points152To154(unittest.TestCase):
    def test_told_and_judged_as_the_points_read(self):
        words = {"all": 0, "some": 0, "reached": 0, "never": 0}
        for dice, program, modules in some_spread_programs(400, 154):
            told = told_or_word(units_evidence, program, modules)
            self.assertEqual(told, plain_units.told_units(program, modules))
            if isinstance(told, str):
                continue
            words[told[0]] += 1
            for row in told[1] if told[0] == "all" else ():
                words[row[0]] += 1
            self.assertIs(accepts_units(program, modules, told), True)
            for value in (*much_changed(told, dice, 8), ("all", ()), ("all", *told[1:]), ("some", (), *told[2:])):
                accepted = accepts_units(program, modules, value)
                self.assertIs(accepted, plain_units.accepts_units(program, modules, value))
                self.assertTrue(not accepted or value[0] == told[0])
        self.assertGreater(min(words.values()), 10)

    def test_every_unit_means_every_use_that_it_can_write(self):
        """Points 152 and 153, at small uses with strangers."""
        many = found = 0
        for _, program, modules in some_spread_programs(250, 152):
            told = told_or_word(units_evidence, program, modules)
            if isinstance(told, str):
                continue
            if told[0] == "some":
                self.assertIn(told[1], plain_units.unseen(program, modules, told[2]))
            for use in plain_units.small_uses(program, 4):
                if plain_units.unseen(program, modules, use):
                    self.assertEqual(told[0], "some")
                    found += 1
                many += 1
        self.assertGreater(many, 2000)
        self.assertGreater(found, 200)

    def test_a_unit_chooses_as_the_whole_where_it_sees_the_definition(self):
        """Point 152; and where none matches by the whole, none does by the part."""
        many = 0
        for dice, program, modules in some_spread_programs(150, 1520):
            for use in plain_units.small_uses(program, 3):
                whole = chosen(program, use)
                for unit in plain_units.all_units(modules)[::3]:
                    part = program_of(program, modules, unit)
                    here = chosen(part, use)
                    if isinstance(whole, int):
                        same = isinstance(here, int) and part[2][here] == program[2][whole]
                        self.assertIs(same, modules[3][whole] in reached_by(program, modules, unit))
                        many += 1
                    if whole == "none":
                        self.assertEqual(here, "none")
        self.assertGreater(many, 1000)

    def test_reached_definitions(self):
        """Point 153: each unit that can write a use that the pattern matches sees it if it is reached, otherwise some does not."""
        reached = other = 0
        for _, program, modules in some_spread_programs(250, 153):
            for at, (name, pattern, _) in enumerate(program[2]):
                starts = plain_units.starts(program, modules, at)
                right = any(modules[3][at] in reached_by(program, modules, (start,)) for start in starts)
                self.assertIs(plain_units.told_path(program, modules, at) is not None, right)
                unit = tuple(sorted(starts))
                self.assertEqual(right, modules[3][at] in reached_by(program, modules, unit))
                reached, other = reached + right, other + (not right)
        self.assertGreater(min(reached, other), 60)

    def test_the_example(self):
        """Behind point 161."""
        self.assertIs(is_modules(WHOLE, SPREAD), True)
        self.assertEqual(units_evidence(WHOLE, SPREAD), ("some", (0,), ("Size", STAR)))
        self.assertEqual(bare_evidence(WHOLE, SPREAD), ("all", (("reached", (0,)), ("reached", (0,)), (
            "never", ("split", 0, (("by", 0), ("by", 1)))))))
        self.assertEqual(program_of(WHOLE, SPREAD, (0,)), (*WHOLE[:2], WHOLE[2][:2]))
        self.assertEqual(program_of(WHOLE, SPREAD, (1,)), WHOLE)
        for unit, use, right in (((0,), ("Size", STAR), True), ((1,), ("Size", STAR), False), ((), ("Size", STAR), False),
                                 ((0, 1), ("Size", STAR), False), ((0,), ("Size", ("#", 7)), True), ((0,), ("Size", INT), False),
                                 ((0,), ("Size", ptr(STAR)), False), ([0], ("Size", STAR), False),
                                 ((False,), ("Size", STAR), False),
                                 ((0, 0), ("Size", STAR), False), ((2,), ("Size", STAR), False), (0, ("Size", STAR), False),
                                 (None, ("Size", STAR), False), ((0,), ("Size", 0), False), ((0,), ("Size",), False),
                                 ((0,), None, False)):
            self.assertIs(accepts_units(WHOLE, SPREAD, ("some", unit, use)), right)
            self.assertIs(accepts_bare(WHOLE, SPREAD, ("some", unit, use)), False)

    def test_the_first_of_the_shortest_paths(self):
        program = (WORDS, (("Size", (0,), 0),), (("Size", (ptr(INT),), INT),))
        for imports, places, generic, at, path in (
                # Several of one length; a shorter one that does not come first; none twice in a ring.
                (numbers_of_modules(5, (4, 1, 0), (4, 2, 0), (4, 3, 0), (0, 4)), (4, 4), 4, 0, (4, 1, 0)),
                (numbers_of_modules(5, (4, 3, 2, 1), (4, 2), (1, 4)), (4, 4), 4, 1, (4, 2, 1)),
                # From the module of a constructor, which is nearer than that of the generic.
                (numbers_of_modules(5, (0, 1, 2, 3), (4, 2), (3, 0), (3, 4)), (0, 4), 0, 3, (4, 2, 3)),
                # As far from two of them: the first one.
                (numbers_of_modules(6, (5, 0), (1, 2, 0), (3, 0), (0, 5, 1), (0, 3)), (5, 3), 1, 0, (3, 0)),
                # The generic's own module, and one that is a start itself.
                (numbers_of_modules(3, (2, 1, 0), (0, 2)), (1, 2), 0, 0, (0,)),
                (numbers_of_modules(3, (2, 1, 0), (0, 2)), (2, 1), 0, 1, (1,))):
            modules = (imports, (places,), (generic,), (at,))
            self.assertIs(is_modules(program, modules), True)
            self.assertEqual(units_evidence(program, modules), ("all", (("reached", path),)))
            self.assertEqual(bare_evidence(program, modules), ("all", (("reached", path),)))
            self.assertEqual(plain_units.told_path(program, modules, 0), path)

    def test_paths_of_somebody_else(self):
        program = (WORDS, (("Size", (0,), 0),), (("Size", (ptr(INT),), INT),))
        modules = (numbers_of_modules(5, (0, 1, 2, 3), (4, 2), (3, 0), (3, 4), (0, 3)), ((0, 4),), (0,), (3,))
        self.assertEqual(units_evidence(program, modules), ("all", (("reached", (0, 3)),)))
        for path, right in (((0, 3), True), ((0, 1, 2, 3), True), ((4, 2, 3), True), ((0, 1, 3), False), ((2, 3), False),
                            ((0, 1, 2), False),
                            ((3,), False), ((), False), ([0, 3], False), ((False, 3), False), ((0, True, 2, 3), False),
                            ((0, 3, 0, 3), False),
                            ((0, 5), False), ((0, -2), False), (None, False), (3, False), ((0, "3"), False), ((0, (3,)), False),
                            ((0, 3, 4, 2, 3), False), ((4, 3), False)):
            for accepts in (accepts_units, accepts_bare):
                self.assertIs(accepts(program, modules, ("all", (("reached", path),))), right, path)
        for value in (("all", [("reached", (0, 3))]), ("all", (["reached", (0, 3)],)), ("all", ()),
                      ("all", (("reached", (0, 3)),) * 2),
                      ("all", (("reached",),)), ("all", (("reached", (0, 3), ()),)), ("some", (("reached", (0, 3)),)),
                      ["all", (("reached", (0, 3)),)],
                      ("all", ("reached", (0, 3))), ("all", (("never", (0, 3)),)), ("all", (("empty", (0, 3)),)), ("all",)):
            self.assertIs(accepts_units(program, modules, value), False)
            self.assertIs(accepts_bare(program, modules, value), False)

    def test_no_definition_and_no_constructor(self):
        program = ((("open", ()),), (("F", (0,), 0),), ())
        modules = (((),), ((),), (0,), ())
        self.assertEqual(units_evidence(program, modules), ("all", ()))
        self.assertEqual(bare_evidence(program, modules), ("all", ()))
        self.assertIs(accepts_units(program, modules, ("all", ())), True)
        for value in (("all", []), ("all", None), ("all",), ("all", (), ()), ("all", (("never", ("by", 0)),))):
            self.assertIs(accepts_units(program, modules, value), False)
            self.assertIs(accepts_bare(program, modules, value), False)
        # A definition for whatever there is, where the kind is empty.
        program = (*program[:2], (("F", (0,), 0),))
        modules = (((), (0,)), ((),), (0,), (1,))
        self.assertEqual(units_evidence(program, modules), ("some", (0,), ("F", STAR)))
        self.assertEqual(bare_evidence(program, modules), ("all", (("empty", (0,)),)))

    def test_never_chosen_ones(self):
        """A definition that no module of its names reaches; the parts of its pattern are taken elsewhere."""
        program = (NUMBERS, (("F", (0,), 0),), (("F", (nxt(0),), 0), ("F", (nxt(ZERO),), ZERO), ("F", (nxt(nxt(0)),), 0)))
        modules = (((), (0,)), ((0, 0), (0,)), (0,), (1, 0, 0))
        tree = ("split", 0, (("by", 1), ("by", 2)))
        rows = (("never", tree), ("reached", (0,)), ("reached", (0,)))
        self.assertEqual(units_evidence(program, modules), ("all", rows))
        self.assertEqual(bare_evidence(program, modules), ("all", rows))
        wide = ("split", 0, (("by", 1), ("split", 1, (("by", 2), ("by", 2)))))
        for value, right in ((tree, True), (wide, True), (("by", 0), False), (("split", 0, (("by", 1), ("by", 0))), False),
                             (("split", 0, (("by", True), ("by", 2))), False), (("split", False, (("by", 1), ("by", 2))), False),
                             (("by", 1), False), (None, False)):
            for accepts in (accepts_units, accepts_bare):
                self.assertIs(accepts(program, modules, ("all", (("never", value), *rows[1:]))), right)
        # Rows with both words can be right, and only one of them is told.
        modules = (((1,), (0,)), ((0, 0), (0,)), (0,), (1, 0, 0))
        self.assertEqual(units_evidence(program, modules)[1][0], ("reached", (0, 1)))
        for accepts in (accepts_units, accepts_bare):
            self.assertIs(accepts(program, modules, ("all", (("reached", (0, 1)), *rows[1:]))), True)
        self.assertIs(accepts_units(program, modules, ("all", rows)), True)
        # No module is without the definition, so nothing is left of the signature.
        self.assertIs(accepts_bare(program, modules, ("all", rows)), False)

    def test_a_row_says_nothing_of_what_is_chosen(self):
        """Evidence of point 67 that the pattern is chosen is no row."""
        rows = (("reached", (0,)), ("reached", (0,)))
        for row in (("chosen", (STAR,)), ("chosen", (ptr(STAR),)), ("never", (STAR,)), ("never", ("by", 0))):
            self.assertIs(accepts_units(WHOLE, SPREAD, ("all", (*rows, row))), False)
            self.assertIs(accepts_bare(WHOLE, SPREAD, ("all", (*rows, row))), False)

    def test_up_to_the_first_one_that_is_chosen(self):
        """Later definitions are not looked at: neither for another use, nor for what raises TooLarge."""
        generics = (("F", (0,), 0), ("G", (0,), 0))
        program = (NUMBERS, generics, (("F", (nxt(0),), 0), ("G", (0,), 0), ("F", (0,), 0)))
        modules = (((), (0,), (0,)), ((0, 0), (0,)), (0, 0), (0, 1, 2))
        self.assertEqual(units_evidence(program, modules), ("some", (0,), ("G", ZERO)))
        self.assertEqual(bare_evidence(program, modules), ("some", (0,), ("G", ZERO)))
        self.assertIs(accepts_units(program, modules, ("some", (0,), ("F", ZERO))), True)

    def test_the_unit_has_the_modules_of_the_use(self):
        program = (NUMBERS, (("F", (0, 1), 0),), (("F", (nxt(0), 1), 0),))
        modules = (((), (), (0, 1), (0,), (2, 3)), ((1, 1), (2,)), (2,), (4,))
        self.assertEqual(units_evidence(program, modules), ("some", (1, 2), ("F", nxt(ZERO), STAR)))
        self.assertEqual(bare_evidence(program, modules), ("some", (1, 2), ("F", nxt(ZERO), ("box", ZERO))))

    def test_uses_of_400_and_401_places(self):
        program = (TYPES, (("F", (0,), 0),), (("F", (0,), 0), ("F", (INT,), INT)))
        modules = (((), (0,)), ((0, 0, 0),), (0,), (1, 0))
        for many, right in ((60, True), (399, True), (400, False)):
            for last in (INT, STAR):
                value = ("some", (0,), ("F", chain("ptr", many, last)))
                self.assertIs(accepts_units(program, modules, value), right)
                self.assertIs(accepts_bare(program, modules, value), right and last == INT)

    def test_told_values_of_400_and_401_places(self):
        for wraps in (1, 2):
            program, modules = great_program(wraps)
            for function in (units_evidence, bare_evidence):
                told = told_or_word(function, program, modules)
                self.assertEqual(told if wraps == 2 else told[0], "value" if wraps == 2 else "some")
                if wraps == 1:
                    self.assertEqual(max(plain.places(value) for value in told[2][1:]), 400)
                    self.assertIs(accepts_units(program, modules, told), True)
                    self.assertIs(accepts_bare(program, modules, told), True)

    def test_trees_of_300_and_301_leaves(self):
        for leaves, word in ((300, None), (301, "cases")):
            program, modules = leafy_program(leaves)
            for function, accepts in ((units_evidence, accepts_units), (bare_evidence, accepts_bare)):
                told = told_or_word(function, program, modules)
                self.assertEqual(told if word else told[0], word or "all")
                if not word:
                    self.assertEqual(told[1][0][0], "never")
                    self.assertIs(accepts(program, modules, told), True)
            # Where an earlier definition ends it, the large one is not looked at.
            program, modules = leafy_program(leaves, ahead=True)
            self.assertEqual(units_evidence(program, modules)[0], "some")
            self.assertEqual(bare_evidence(program, modules)[0], "some")

    def test_whatever_is_judged(self):
        for program, modules in ((WHOLE, SPREAD), (PROGRAM, MODULES),
                                 ((WORDS, (("F", (0,), 0),), ()), (((),), ((0, 0),), (0,), ()))):
            for value in (*NOTHINGS, *deep_things()):
                for evidence in (value, ("all", value), ("all", (value,)), ("all", (value,) * 3), ("some", value, value),
                                 ("some", (0,), value),
                                 ("all", (("reached", value),) * 3), ("all", (("never", value),) * 3),
                                 ("all", (("empty", value),) * 3),
                                 ("some", value, ("Size", STAR)), ("some", (0,), ("Size", value)), (value, ())):
                    right = program[2] == () and evidence == ("all", ())
                    self.assertIs(accepts_units(program, modules, evidence), right)
                    self.assertIs(accepts_bare(program, modules, evidence), right)


def great_program(wraps):
    """A definition that no names reach; it is chosen at told values of 399 places and one for each wrap."""
    signature, kinds, table = great_heaps(wraps)
    program = (signature, (("F", kinds, 0),), tuple(("F", pattern, 0) for pattern in table))
    return program, (((), (0,)), ((0, 0, 0), (0,), (0,)), (0,), (1, *[0] * (len(table) - 1)))


def leafy_program(leaves, ahead=False):
    """A definition that no names reach and that is never chosen, by a tree of so many leaves; perhaps behind one that is."""
    table = ((0, 1, 2), *LEAVES[leaves])
    definitions = tuple(("F", pattern, ("la",)) for pattern in table)
    generics = (("F", LETTER_KINDS, 0), ("G", (0,), 0))
    if ahead:
        definitions = (("G", (0,), 0), *definitions)
    places = (*[1] * ahead, 1, *[0] * (len(table) - 1))
    return (LETTERS, generics, definitions), (((), (0,)), ((0, 0), (0,) * 4, (0,)), (0, 0), places)


class Points155To157(unittest.TestCase):
    def test_told_and_judged_as_the_points_read(self):
        words = {"all": 0, "some": 0, "reached": 0, "empty": 0, "never": 0}
        for dice, program, modules in some_spread_programs(500, 157):
            told = told_or_word(bare_evidence, program, modules)
            self.assertEqual(told, plain_units.told_bare(program, modules))
            if isinstance(told, str):
                continue
            words[told[0]] += 1
            for row in told[1] if told[0] == "all" else ():
                words[row[0]] += 1
            self.assertIs(accepts_bare(program, modules, told), True)
            others = [("all", tuple(("empty", (kind,)) if row[0] == "empty" else row for row in told[1]))
                      for kind in range(3)] if told[0] == "all" else []
            for value in (*much_changed(told, dice, 8), *others, ("all", ()), told_or_word(units_evidence, program, modules)):
                accepted = accepts_bare(program, modules, value)
                self.assertIs(accepted, plain_units.accepts_bare(program, modules, value))
                self.assertTrue(not accepted or value[0] == told[0])
        self.assertGreater(min(words.values()), 10)

    def test_every_bare_unit_means_every_use_without_strangers(self):
        """Points 152 and 156, at small uses."""
        many = found = 0
        for _, program, modules in some_spread_programs(300, 156):
            told = told_or_word(bare_evidence, program, modules)
            if isinstance(told, str):
                continue
            if told[0] == "some":
                self.assertIn(told[1], plain_units.unseen(program, modules, told[2]))
                self.assertIs(plain_units.has_stranger((told[2],)), False)
            for use in plain_units.small_uses(program, 4, 0):
                if plain_units.unseen(program, modules, use):
                    self.assertEqual(told[0], "some")
                    found += 1
                many += 1
        self.assertGreater(many, 2000)
        self.assertGreater(found, 100)

    def test_empty_kinds(self):
        """Of point 155: told are all empty kinds, also those that no variable of the pattern has."""
        signature = (("open", (("wrap", (0,)), ("seed", ()))), ("closed", (("only", (0,)), ("both", (0, 1)))),
                     ("closed", (("one", ()),)))
        program = (signature, (("F", (1, 2), 2),), (("F", (("only", 0), 1), 1), ("F", (("only", ("seed",)), 0), 0)))
        modules = (((), (0,)), ((0, 1), (0, 0), (0,)), (0,), (1, 1))
        self.assertIs(is_modules(program, modules), True)
        self.assertEqual(cut_signature(program, modules, (0,)), (("open", ()), ("open", ()), ("closed", (("one", ()),))))
        # The first one has a variable of kind 0; the second one is reached by the module of "seed".
        rows = (("empty", (0, 1)), ("reached", (1,)))
        self.assertEqual(bare_evidence(program, modules), ("all", rows))
        for kinds, right in (((0, 1), True), ((0,), True), ((1,), False), ((), False), ((0, 2), False), ((0, 1, 2), False),
                             ((1, 0), False),
                             ((0, 0), False), ([0, 1], False), ((False, 1), False), ((0, True), False), ((2,), False),
                             ((0, 3), False),
                             ((-1, 0), False), (None, False), (0, False)):
            self.assertIs(accepts_bare(program, modules, ("all", (("empty", kinds), rows[1]))), right, kinds)
        self.assertIs(accepts_bare(program, modules, ("all", (rows[0], ("empty", (0, 1))))), False)
        # All units can write it with a stranger.
        self.assertEqual(units_evidence(program, modules), ("some", (0,), ("F", ("only", STAR), ("one",))))
        self.assertIs(accepts_units(program, modules, ("all", rows)), False)
        self.assertIs(accepts_bare(program, modules, units_evidence(program, modules)), False)

    def test_empty_where_a_constructor_is_in_a_module_with_the_definition(self):
        """It does not count that a constructor has no part of these kinds, if its module reaches the definition."""
        signature = (("open", (("seed", ()), ("wrap", (0,)))), ("closed", (("one", ()),)))
        program = (signature, (("F", (0,), 1),), (("F", (0,), ("one",)),))
        for seed, imports, right in ((1, ((), (0,)), True), (0, ((), (0,)), False), (2, ((), (0,), (1,)), True),
                                     (2, ((), (0,), (0,)), False)):
            modules = (imports, ((seed, 0), (0,)), (0,), (1,))
            self.assertIs(is_modules(program, modules), True)
            self.assertIs(accepts_bare(program, modules, ("all", (("empty", (0,)),))), right)
            self.assertEqual(bare_evidence(program, modules)[0], "all" if right else "some")

    def test_no_tree_where_a_variable_is_of_an_empty_kind(self):
        signature = (("open", ()), NUMBERS[0][:1] + ((("zero", ()), ("next", (1,))),))
        program = (signature, (("F", (0, 1), 1),), (("F", (0, 1), 1), ("F", (0, ZERO), ZERO), ("F", (0, nxt(1)), 1)))
        modules = (((), (0,)), ((), (0, 0)), (0,), (1, 0, 0))
        self.assertIs(is_modules(program, modules), True)
        never, rest = ("never", ("split", 1, (("by", 1), ("by", 2)))), (("reached", (0,)), ("reached", (0,)))
        self.assertEqual(units_evidence(program, modules), ("all", (never, *rest)))
        self.assertEqual(bare_evidence(program, modules), ("all", (("empty", (0,)), *rest)))
        self.assertIs(accepts_bare(program, modules, ("all", (never, *rest))), False)
        self.assertIs(accepts_units(program, modules, ("all", (("empty", (0,)), *rest))), False)

    def test_covered_over_the_cut_signature_alone(self):
        """With the numbers of the whole table, where a pattern with another constructor stands ahead."""
        signature = (("open", (("int", ()), ("far", ()), ("ptr", (0,)))),)
        rows = ((("far",), INT), (INT, INT), (0, 0), (ptr(0), 0))
        program = (signature, (("F", (0,), 0),), tuple(("F", (pattern,), body) for pattern, body in rows))
        modules = (((), (0,)), ((0, 1, 0),), (0,), (1, 0, 1, 0))
        self.assertIs(is_modules(program, modules), True)
        tree = ("split", 0, (("by", 1), ("by", 3)))
        right = (("reached", (1,)), ("reached", (0,)), ("never", tree), ("reached", (0,)))
        self.assertEqual(bare_evidence(program, modules), ("all", right))
        self.assertEqual(units_evidence(program, modules), ("some", (0,), ("F", STAR)))
        for value, fine in ((("split", 0, (("by", 0), ("by", 3))), False),
                            (("split", 0, (("by", 1), ("by", 0), ("by", 3))), False),
                            (("split", 0, (("by", 1), ("by", 2))), False),
                            (("split", 0, (("by", 1), ("split", 1, (("by", 3), ("by", 3))))), True)):
            self.assertIs(accepts_bare(program, modules, ("all", (*right[:2], ("never", value), right[3]))), fine)
        # Without the constructor the last row is not covered: a bare unit can write it.
        less = (signature, program[1], program[2][:3])
        modules = (*modules[:3], (1, 0, 1))
        self.assertEqual(bare_evidence(less, modules), ("some", (0,), ("F", ptr(INT))))
        # A pattern with a constructor that is not left has no tree at all.
        wide = (("never", ("by", 2)), *right[1:])
        self.assertIs(accepts_bare(program, (*modules[:3], (1, 0, 1, 0)), ("all", wide)), False)
        whole = (signature, program[1], (("F", (("far",),), INT), ("F", (0,), 0)))
        modules = (((), (0,), (1,)), ((0, 1, 0),), (0,), (2, 0))
        self.assertEqual(bare_evidence(whole, modules), ("some", (0, 1), ("F", ("far",))))
        self.assertIs(accepts_bare(whole, modules, ("all", (("never", ("by", 1)), ("reached", (0,))))), False)

    def test_told_over_the_cut_signature(self):
        """Values of open kinds are made of what is left, and none has a stranger."""
        program = (NUMBERS, (("F", (1,), 0),), (("F", (0,), ZERO), ("F", (("box", ZERO),), ZERO)))
        modules = (((), (0,), (0,)), ((0, 0), (1,)), (0,), (2, 0))
        self.assertIs(is_modules(program, modules), False)
        modules = (((), (0,), (0, 1)), ((0, 0), (1,)), (0,), (2, 1))
        self.assertIs(is_modules(program, modules), True)
        self.assertEqual(bare_evidence(program, modules), ("some", (0, 1), ("F", ("box", nxt(ZERO)))))
        self.assertEqual(units_evidence(program, modules), ("some", (0,), ("F", STAR)))

    def test_evidence_with_some(self):
        program = (NUMBERS, (("F", (1,), 0),), (("F", (0,), ZERO),))
        modules = (((), (0,), (0, 1)), ((0, 0), (1,)), (0,), (2,))
        for unit, use, right, bare in (((0, 1), ("F", ("box", ZERO)), True, True), ((1,), ("F", ("box", nxt(ZERO))), True, True),
                                       ((0,), ("F", ("box", ZERO)), False, False), ((2,), ("F", ("box", ZERO)), False, False),
                                       ((0, 1), ("F", STAR), True, False), ((0,), ("F", STAR), True, False),
                                       ((), ("F", STAR), False, False)):
            self.assertIs(accepts_units(program, modules, ("some", unit, use)), right)
            self.assertIs(accepts_bare(program, modules, ("some", unit, use)), bare)
        for value in (("some", (1,)), ("some", (1,), ("F", ("box", ZERO)), ()), ["some", (1,), ("F", ("box", ZERO))],
                      ("all", (1,), ("F", ("box", ZERO)))):
            self.assertIs(accepts_bare(program, modules, value), False)
            self.assertIs(accepts_units(program, modules, value), False)

    def test_uses_without_a_choice_are_no_evidence(self):
        program = (NUMBERS, (("F", (0, 0), 0),), (("F", (nxt(0), 1), 0), ("F", (0, nxt(1)), 0)))
        modules = (((), (0,)), ((0, 0), (0,)), (0,), (1, 1))
        for use, right in ((("F", ZERO, ZERO), False), (("F", nxt(ZERO), nxt(ZERO)), False), (("F", nxt(ZERO), ZERO), True),
                           (("F", ZERO, nxt(ZERO)), True)):
            self.assertIs(accepts_units(program, modules, ("some", (0,), use)), right)
            self.assertIs(accepts_bare(program, modules, ("some", (0,), use)), right)


class Points158And159(unittest.TestCase):
    def test_all_units_and_bare_ones_and_further_imports(self):
        """Point 158."""
        kept = 0
        for dice, program, modules in some_spread_programs(250, 158):
            words = [told_or_word(function, program, modules) for function in (units_evidence, bare_evidence)]
            if any(isinstance(word, str) for word in words):
                continue
            if words[0][0] == "all":
                self.assertEqual(words[1][0], "all")
            many = len(modules[0])
            more = tuple(tuple(sorted({*row, *[far for far in range(many) if far != near and dice.random() < 0.3]}))
                         for near, row in enumerate(modules[0]))
            self.assertIs(is_modules(program, (more, *modules[1:])), True)
            for function, word in zip((units_evidence, bare_evidence), words):
                if word[0] == "all":
                    self.assertEqual(function(program, (more, *modules[1:]))[0], "all")
                    kept += 1
        self.assertGreater(kept, 200)

    def test_the_same_evidence_by_the_program_of_the_unit(self):
        """Point 159."""
        many = 0
        for _, program, modules in some_spread_programs(200, 159):
            for function, strangers in ((units_evidence, 2), (bare_evidence, 0)):
                if told_or_word(function, program, modules)[0] != "all":
                    continue
                for use in plain_units.small_uses(program, 3, strangers):
                    whole = told_or_word(done_evidence, program, use)
                    units = [unit for unit in plain_units.all_units(modules) if plain_units.can_write(program, modules, unit,
                        use)]
                    if whole[0] == "two":
                        continue
                    for unit in units[:6]:
                        self.assertEqual(told_or_word(done_evidence, program_of(program, modules, unit), use), whole)
                        many += 1
                        self.check_writable(program, modules, unit, whole)
        self.assertGreater(many, 1500)

    def test_too_large_by_both_programs(self):
        """Point 159."""
        for body, word in ((("F", ptr(0)), "rows"), (("F", ("pair", 0, 0)), "value")):
            program = (TYPES, (("F", (0,), 0), ("G", (0,), 0)), (("F", (0,), body), ("G", (0,), 0)))
            modules = (((), (0,)), ((0, 0, 0),), (0, 1), (0, 1))
            self.assertEqual(units_evidence(program, modules)[0], "all")
            self.assertEqual(len(program_of(program, modules, (0,))[2]), 1)
            for part in (program, program_of(program, modules, (0,))):
                too_large(self, word, done_evidence, part, ("F", INT))

    def check_writable(self, program, modules, unit, told):
        if isinstance(told, str):
            return
        uses = [row[0] for row in (*told[1], *(told[2] if len(told) > 2 else ()))] + list(told[3:4])
        for use in uses:
            self.assertIs(plain_units.can_write(program, modules, unit, use), True)


class Point160(unittest.TestCase):
    def test_told_and_judged_as_the_point_reads(self):
        several = none = 0
        for dice, program, modules in some_spread_programs(300, 160):
            uses = tuple(small_use(program, dice) for _ in range(dice.randint(1, 3)))
            told = told_or_word(wanted_modules, program, modules, uses)
            self.assertEqual(told, plain_units.wanted_modules(program, modules, uses))
            many = len(modules[0])
            rows = [told] if not isinstance(told, str) and told[:1] != ("not",) else []
            rows += [tuple(sorted(dice.sample(range(many), dice.randint(0, many)))) for _ in range(2)]
            for wanted in rows:
                unit = tuple(sorted(dice.sample(range(many), dice.randint(0, many))))
                right = plain_units.right_imports(modules, unit, wanted)
                self.assertEqual(further_imports(program, modules, unit, wanted), right[0])
                several, none = several + (len(right) > 1), none + (right == [()])
                for value in (*plain_units.all_units(modules), *much_changed(right[0], dice, 4)):
                    fine = value in right and not any(isinstance(item, bool) for item in value)
                    self.assertIs(accepts_imports(program, modules, unit, wanted, value), fine)
        self.assertGreater(min(several, none), 20)

    def test_a_unit_has_the_same_evidence_exactly_if_it_reaches_what_is_wanted(self):
        same = other = 0
        for dice, program, modules in some_spread_programs(300, 1600):
            uses = tuple(small_use(program, dice) for _ in range(dice.randint(1, 2)))
            wanted = told_or_word(wanted_modules, program, modules, uses)
            if isinstance(wanted, str) or wanted[:1] == ("not",):
                continue
            for unit in plain_units.all_units(modules)[:16]:
                part = program_of(program, modules, unit)
                right = all(plain_units.can_write(program, modules, unit, use)
                            and told_or_word(done_evidence, part, use) == done_evidence(program, use) for use in uses)
                self.assertIs(right, set(wanted) <= set(reached_by(program, modules, unit)))
                same, other = same + right, other + (not right)
        self.assertGreater(min(same, other), 150)

    def test_what_is_wanted(self):
        """The generics and constructors of the uses, and the definitions in rows and trails."""
        imports = ((), (0,), (1,), (1,), (1,), (1,))
        modules = (imports, ((0, 0), (5,)), (1, 1, 1, 1), (2, 3, 2, 3, 4, 4, 4, 5))
        self.assertIs(is_modules(EXAMPLE, modules), True)
        for use, right in ((("Add", ZERO, ZERO), (0, 1, 2)), (("Add", number(1), ZERO), (0, 1, 2, 3)),
                           (("Half", number(1)), (0, 1)),
                           (("Half", number(3)), (0, 1, 3)), (("Pick", ZERO, number(2)), (0, 1, 2, 4)),
                           (("Spin", ZERO), (0, 1, 2, 5))):
            self.assertEqual(wanted_modules(EXAMPLE, modules, (use,)), right)
        self.assertEqual(wanted_modules(EXAMPLE, modules, (("Half", number(3)), ("Spin", ZERO), ("Half", number(3)))),
                         (0, 1, 2, 3, 5))
        not_possible(self, "two", wanted_modules, EXAMPLE, modules, (("Pick", number(1), number(1)),))
        not_possible(self, "two", wanted_modules, EXAMPLE, modules, (("Half", ZERO), ("Pick", number(1), number(1))))
        # A stranger stands for what the unit adds itself.
        self.assertEqual(wanted_modules(WHOLE, SPREAD, (("Size", STAR),)), (0, 1))
        self.assertEqual(wanted_modules(WHOLE, SPREAD, (("Size", INT),)), (0,))

    def test_uses_that_are_too_large_and_their_order(self):
        program = (TYPES, (("F", (0,), 0), ("G", (0, 0), 0)),
                   (("F", (0,), ("F", ptr(0))), ("G", (ptr(0), 1), 0), ("G", (0, ptr(1)), 0)))
        modules = (((),), ((0, 0, 0),), (0, 0), (0, 0, 0))
        large, two = ("F", INT), ("G", ptr(INT), ptr(INT))
        too_large(self, "rows", wanted_modules, program, modules, (large,))
        too_large(self, "rows", wanted_modules, program, modules, (large, two))
        not_possible(self, "two", wanted_modules, program, modules, (two, large))
        growing = (TYPES, (("F", (0,), 0),), (("F", (0,), ("F", ("pair", 0, 0))),))
        too_large(self, "value", wanted_modules, growing, (((),), ((0, 0, 0),), (0,), (0,)), (("F", INT),))

    def test_further_imports(self):
        program = (WORDS, (("Size", (0,), 0),), ())
        imports = numbers_of_modules(6, (3, 0), (4, 0), (3, 1), (4, 1), (5, 2), (5, 1))
        modules = (imports, ((0, 0),), (0,), ())
        for unit, wanted, right in (((), (0, 1), (3,)), ((), (0,), (0,)), ((0,), (0,), ()), ((), (), ()), ((3,), (0, 1), ()),
                                    ((), (0, 1, 2), (0, 5)),
                                    ((), (0, 3, 4), (3, 4)), ((5,), (0, 1), (0,)), ((), (0, 1, 2, 3, 4, 5), (3, 4, 5)),
                                    ((3, 4, 5), (0, 1, 2), ()),
                                    ((2,), (0, 1, 2), (3,))):
            self.assertEqual(further_imports(program, modules, unit, wanted), right)
            self.assertIs(accepts_imports(program, modules, unit, wanted, right), True)
        for value, right in (((3,), True), ((4,), True), ((5,), False), ((0, 1), False), ((3, 4), False), ((), False),
                             ((True,), False),
                             ([3], False), ((6,), False), ((-2,), False), (None, False), (3, False), (("3",), False),
                             ((3, 3), False)):
            self.assertIs(accepts_imports(program, modules, (), (0, 1), value), right)
        for value, right in (((0, 5), True), ((3, 5), True), ((4, 5), True), ((5, 0), False), ((0, 1, 2), False),
                             ((0, 1, 5), False), ((1, 2), False),
                             ((2, 3), True), ((2, 4), True), ((False, 5), False)):
            self.assertIs(accepts_imports(program, modules, (), (0, 1, 2), value), right)
        for value in (*NOTHINGS, *deep_things()):
            self.assertIs(accepts_imports(program, modules, (), (0, 1), value), False)
            self.assertIs(accepts_imports(program, modules, (), (0, 1), (value,)), False)
            self.assertIs(accepts_imports(program, modules, (0,), (0,), value), value == ())


class Point161(unittest.TestCase):
    def test_the_first_wrong_argument_is_named(self):
        calls = ((units_evidence, ()), (accepts_units, (None,)), (bare_evidence, ()), (accepts_bare, (None,)),
                 (wanted_modules, (None,)),
                 (further_imports, (None, None)), (accepts_imports, (None, None, None)))
        wrong_modules = (None, (), [], 0, True, list(SPREAD), SPREAD[:3], (SPREAD[0], ((0, 1),), (1,), (0, 0, 1)),
                         (SPREAD[0], SPREAD[1], (0,), (0, 1)))
        for function, rest in calls:
            for wrong in (*NOTHINGS, *deep_things()):
                bad(self, "program", function, wrong, None, *rest)
                bad(self, "modules", function, WHOLE, wrong, *rest)
            for wrong in wrong_modules:
                bad(self, "modules", function, WHOLE, wrong, *rest)
        wrong_units = (None, 0, [0], (2,), (-1,), (1, 0), (0, 0), (True,), (0, True), (None,), "0", {}, ((0,),), (0, 1, 2))
        for wrong in (*wrong_units, *deep_things()):
            bad(self, "unit", further_imports, WHOLE, SPREAD, wrong, None)
            bad(self, "unit", accepts_imports, WHOLE, SPREAD, wrong, None, None)
            bad(self, "wanted", further_imports, WHOLE, SPREAD, (0,), wrong)
            bad(self, "wanted", accepts_imports, WHOLE, SPREAD, (0,), wrong, None)

    def test_uses(self):
        right = ("Size", INT)
        for many, fine in ((0, False), (1, True), (6, True), (7, False)):
            if fine:
                self.assertEqual(wanted_modules(WHOLE, SPREAD, (right,) * many), (0,))
            else:
                bad(self, "uses", wanted_modules, WHOLE, SPREAD, (right,) * many)
        for wrong in (None, 0, True, [right], right, (right, None), (("Size",),), (("Size", 0),), (("Sise", INT),),
                      (["Size", INT],), ((),), {},
                      (("Size", chain("ptr", 60, INT)),), (("Size", ("#", True)),)):
            bad(self, "uses", wanted_modules, WHOLE, SPREAD, wrong)
        self.assertEqual(wanted_modules(WHOLE, SPREAD, (("Size", chain("ptr", 59, INT)),)), (0,))
        for thing in deep_things():
            for wrong in (thing, (thing,), (right, thing), (("Size", thing),)):
                bad(self, "uses", wanted_modules, WHOLE, SPREAD, wrong)


class Point9(unittest.TestCase):
    def test_four_answers_together(self):
        """Clear and complete, no endless row or falling weights, all units: then every use comes to a value, by every unit."""
        many = 0
        for dice, program, modules in settled_programs(60, 9):
            for use in plain_units.small_uses(program, 4):
                whole = told_or_word(done_evidence, program, use)
                if isinstance(whole, str):
                    continue
                self.assertEqual(whole[0], "value")
                for unit in plain_units.all_units(modules):
                    if plain_units.can_write(program, modules, unit, use):
                        self.assertEqual(done_evidence(program_of(program, modules, unit), use), whole)
                        many += 1
        self.assertGreater(many, 500)


def settled_programs(least, seed):
    """Triples of dice, program and modules for which the four answers of point 9 are right."""
    dice = random.Random(seed)
    found = 0
    while found < least:
        program = lively_program(dice, flat=dice.random() < 0.5)
        tables = [(kinds, plain_programs.patterns_of(program, name)) for name, kinds, _ in program[1]]
        if not all(is_clear(program[0], kinds, table) and is_complete(program[0], kinds, table) for kinds, table in tables):
            continue
        if weights_evidence(program)[0] != "weights" and told_or_word(always_value, program) is not True:
            continue
        modules = placed(program, ((), (0,), (0, 1)), dice)
        if modules is not None and units_evidence(program, modules)[0] == "all":
            found += 1
            yield dice, program, modules


if __name__ == "__main__":
    unittest.main()
