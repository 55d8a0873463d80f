"""Points 98 to 112: what uses come to, and evidence about it."""

import random
import unittest

from closestfit.errors import TooLarge
from closestfit.evaluate import comes_to
from closestfit.programs import chosen, is_program, is_use, step
from closestfit.records import accepts_done, are_rows, done_evidence
from closestfit.sound import stuck_uses
from closestfit.strangers import exchanged, with_constructor
from tests import plain, plain_cases, plain_programs
from tests.makers import much_changed
from tests.programs import (EXAMPLE, ZERO, fitting_use, lively_program, number, nxt, small_use, some_programs)
from tests.samples import NOTHINGS, NUMBERS, TYPES, bad, chain, deep_things, too_large
from tests.test_clear import told_or_word

INT = ("int",)
OPEN = (("open", (("int", ()), ("ptr", (0,)), ("pair", (0, 0)))),)


def pair(one, other):
    return ("pair", one, other)


def some_done(many, seed, strangers=2):
    """Quadruples of dice, program, use, and what is told about it, which is not too large."""
    dice = random.Random(seed)
    for program in [lively_program(dice) for _ in range(many)] + [program for _, program in some_programs(many // 4, seed)]:
        for _ in range(4):
            use = fitting_use(program, dice, strangers)
            told = told_or_word(done_evidence, program, use)
            if isinstance(told, tuple):
                yield dice, program, use, told


def sums():
    """Pairs of numbers that add up, and the told evidence."""
    return [(one, other, done_evidence(EXAMPLE, ("Add", number(one), number(other)))) for one in range(5) for other in range(3)]


class Points98To101(unittest.TestCase):
    def test_as_the_points_read(self):
        words = {"value": 0, "none": 0, "two": 0, "round": 0}
        long = 0
        dice = random.Random(98)
        programs = [lively_program(dice) for _ in range(300)] + [program for _, program in some_programs(100, 98)]
        for program in programs:
            for use in [fitting_use(program, dice) for _ in range(5)] + [small_use(program, dice)]:
                right = plain_programs.done(program, use)
                self.assertEqual(told_or_word(done_evidence, program, use), right)
                if isinstance(right, str):
                    too_large(self, right, comes_to, program, use)
                    continue
                words[right[0]] += 1
                long += len(right[1]) > 3
                told = comes_to(program, use)
                self.assertEqual(told, ("value", right[1][-1][2]) if right[0] == "value" else (right[0], *right[2:]))
        self.assertGreater(min(words.values()), 60)
        self.assertGreater(long, 40)

    def test_numbers_are_added(self):
        for one, other, told in sums():
            self.assertEqual(comes_to(EXAMPLE, ("Add", number(one), number(other))), ("value", number(one + other)))
            self.assertEqual(told, ("value", tuple([
                (("Add", number(i), number(other)), ((ZERO, 0) if i == 0 else (nxt(0), 1)), number(i + other))
                for i in range(one + 1)])))

    def test_the_order(self):
        """Uses within a use come first, an earlier argument before a later one; what is done is not done again."""
        generics = (("A", (0,), 0), ("B", (0, 0), 0), ("C", (0,), 0))
        program = (NUMBERS, generics, (("A", (0,), ("B", ("C", nxt(("C", 0))), ("C", 0))), ("B", (0, 1), nxt(0)), ("C", (0,), 0)))
        told = done_evidence(program, ("A", ZERO))
        self.assertEqual([row[0] for row in told[1]], [("C", ZERO), ("C", number(1)), ("B", number(1), ZERO), ("A", ZERO)])
        self.assertEqual(comes_to(program, ("A", ZERO)), ("value", number(2)))
        # With another order of the arguments another trouble is met.
        other = (NUMBERS, generics, (("A", (0,), ("B", ("C", 0), ("A", 0))), ("C", (nxt(0),), 0)))
        self.assertEqual(comes_to(other, ("A", ZERO)), ("none", ((("A", ZERO), (0,)),), ("C", ZERO)))
        other = (NUMBERS, generics, (("A", (0,), ("B", ("A", 0), ("C", 0))), ("C", (nxt(0),), 0)))
        self.assertEqual(comes_to(other, ("A", ZERO)), ("round", ((("A", ZERO), (0,)),), ("A", ZERO)))

    def test_the_last_use_is_the_one_that_is_asked(self):
        for use, word in ((("Half", number(1)), "none"), (("Pick", number(1), number(1)), "two")):
            told = done_evidence(EXAMPLE, use)
            self.assertEqual(told[:4], (word, (), (), use))
            self.assertEqual(comes_to(EXAMPLE, use)[:3], (word, (), use))
            self.assertIs(accepts_done(EXAMPLE, use, told), True)
        program = (NUMBERS, (("A", (0,), 0),), (("A", (0,), nxt(("A", 0))),))
        told = done_evidence(program, ("A", ZERO))
        self.assertEqual(told, ("round", (), ((("A", ZERO), (0,)),), ("A", ZERO)))
        self.assertIs(accepts_done(program, ("A", ZERO), told), True)

    def test_a_round_that_begins_later(self):
        program = (NUMBERS, (("A", (0,), 0),), (("A", (nxt(nxt(0)),), ("A", nxt(0))), ("A", (nxt(ZERO),), ("A", ZERO)),
                                               ("A", (ZERO,), ("A", nxt(ZERO)))))
        told = comes_to(program, ("A", number(3)))
        self.assertEqual(told[0], "round")
        self.assertEqual([use for use, _ in told[1]], [("A", number(i)) for i in (3, 2, 1, 0)])
        self.assertEqual(told[2], ("A", number(1)))

    def test_two(self):
        """The trail is without the last use; the patterns are those that the choice names."""
        generics = (("A", (0,), 0), ("B", (0, 0), 0))
        program = (NUMBERS, generics, (("A", (0,), nxt(("B", 0, nxt(0)))), ("B", (0, 1), 0), ("B", (0, nxt(1)), 0),
                                       ("B", (nxt(0), 1), 1),
                                       ("B", (nxt(0), nxt(nxt(1))), 1)))
        told = comes_to(program, ("A", nxt(ZERO)))
        self.assertEqual(chosen(program, ("B", number(1), number(2))), 4)
        self.assertEqual(told, ("value", nxt(ZERO)))
        fewer = (*program[:2], program[2][:4])
        told = comes_to(fewer, ("A", nxt(ZERO)))
        self.assertEqual(told, ("two", ((("A", nxt(ZERO)), (0,)),), ("B", number(1), number(2)), (0, nxt(1)), (nxt(0), 1)))
        self.assertEqual(done_evidence(fewer, ("A", nxt(ZERO))), ("two", (), *told[1:]))

    def test_values_of_400_and_401_places(self):
        """A use that comes to one, and a use that is to be done with one; also one that nothing is done with."""
        generics = (("A", (0, 0), 0), ("B", (0, 0), 0), ("C", (0,), 0), ("D", (0,), 0), ("E", (0,), 0))[:4]
        great = pair(0, pair(0, pair(0, 1)))
        base = (("A", (0, 1), ("B", ("C", 0), 1)), ("C", (0,), pair(0, 0)), ("D", (0,), INT))
        long = chain("ptr", 59, INT)
        for body, value in ((great, None), (("D", great), INT)):
            program = (OPEN, generics, (*base, ("B", (0, 1), body)))
            right = chain("ptr", 33, INT)
            told = comes_to(program, ("A", long, right))
            self.assertEqual(told[0], "value")
            if value is None:
                self.assertEqual(plain.places(told[1]), 400)
            else:
                self.assertEqual(told[1], value)
            evidence = done_evidence(program, ("A", long, right))
            self.assertIs(accepts_done(program, ("A", long, right), evidence), True)
            self.assertIs(are_rows(program, evidence[1]), True)
            for function in (comes_to, done_evidence):
                too_large(self, "value", function, program, ("A", long, ("ptr", right)))
        # A body of such a use has no use of its own that takes the value.
        program = (OPEN, generics, (*base, ("B", (0, 1), ("D", great)), ("D", (pair(0, 1),), INT)))
        too_large(self, "value", comes_to, program, ("A", long, chain("ptr", 34, INT)))
        program = (OPEN, generics, (*base[:2], ("B", (0, 1), ("D", great))))
        # Its values are looked at before its patterns.
        too_large(self, "value", comes_to, program, ("A", long, chain("ptr", 34, INT)))
        self.assertEqual(comes_to(program, ("A", long, chain("ptr", 33, INT)))[0], "none")

    def test_values_that_double(self):
        program = (OPEN, (("A", (0,), 0),), (("A", (INT,), INT), ("A", (("ptr", 0),), pair(("A", 0), ("A", 0)))))
        told = comes_to(program, ("A", chain("ptr", 7, INT)))
        self.assertEqual(plain.places(told[1]), 255)
        self.assertEqual(len(done_evidence(program, ("A", chain("ptr", 7, INT)))[1]), 8)
        too_large(self, "value", comes_to, program, ("A", chain("ptr", 8, INT)))
        # A step that is very large, but of which nothing is too large.
        program = (OPEN, (("A", (0,), 0), ("B", (0,), 0)), (("A", (0,), ("B", ("B", pair(0, pair(0, 0))))), ("B", (0,), INT)))
        self.assertEqual(comes_to(program, ("A", chain("ptr", 59, INT))), ("value", INT))

    def test_60_and_61_uses(self):
        count = (("Count", (nxt(0),), ("Count", 0)), ("Count", (ZERO,), ZERO), ("A", (0,), ("Count", nxt(0))))
        program = (NUMBERS, (("Count", (0,), 0), ("A", (0,), 0)), count)
        told = done_evidence(program, ("Count", number(59)))
        self.assertEqual(len(told[1]), 60)
        self.assertIs(accepts_done(program, ("Count", number(59)), told), True)
        self.assertEqual(len(done_evidence(program, ("A", number(57)))[1]), 60)
        for function in (comes_to, done_evidence):
            too_large(self, "rows", function, program, ("A", number(58)))
        without = (*program[:2], (count[0], count[2]))
        told = done_evidence(without, ("Count", number(59)))
        self.assertEqual((told[0], len(told[2]), told[3]), ("none", 59, ("Count", ZERO)))
        self.assertIs(accepts_done(without, ("Count", number(59)), told), True)
        # How many are begun is looked at before the patterns.
        too_large(self, "rows", comes_to, without, ("A", number(58)))
        self.assertEqual(comes_to(without, ("A", number(57)))[0], "none")
        twice = (*program[:2], (*count, ("Count", (0,), 0), ("Count", (nxt(nxt(0)),), ("Count", nxt(0)))))
        self.assertEqual(comes_to(twice, ("Count", number(59)))[0], "value")

    def test_what_is_done_already_is_not_begun_again(self):
        generics = (("Count", (0,), 0), ("A", (0,), 0), ("B", (0, 0), 0))
        rows = (("Count", (nxt(0),), ("Count", 0)), ("Count", (ZERO,), ZERO), ("B", (0, 1), 0))
        for body, uses in ((("B", ("Count", 0), ("Count", 0)), 3), (("B", ("Count", 0), ("Count", nxt(0))), 4)):
            program = (NUMBERS, generics, (*rows, ("A", (0,), body)))
            most = 60 - uses
            self.assertEqual(len(done_evidence(program, ("A", number(most)))[1]), 60)
            too_large(self, "rows", comes_to, program, ("A", number(most + 1)))

    def test_a_round_with_60_uses(self):
        """Whether it is begun is looked at before how many are."""
        rows = (("Count", (nxt(0), 1), ("Count", 0, 1)), ("Count", (ZERO, 0), ("Count", 0, 0)), ("A", (0,), ("Count", 0, nxt(0))))
        program = (NUMBERS, (("Count", (0, 0), 0), ("A", (0,), 0)), rows)
        told = done_evidence(program, ("Count", number(59), number(59)))
        self.assertEqual((told[0], told[1], len(told[2])), ("round", (), 60))
        self.assertEqual(told[3], ("Count", number(59), number(59)))
        self.assertIs(accepts_done(program, ("Count", number(59), number(59)), told), True)
        too_large(self, "rows", comes_to, program, ("A", number(59)))
        self.assertEqual(comes_to(program, ("A", number(57)))[0], "round")

    def test_a_61st_use_with_a_great_value(self):
        """Its values are looked at before how many uses are begun."""
        rows = (("Count", (("ptr", 0), 1), ("Count", 0, 1)), ("Count", (INT, 0), ("Count", INT, pair(0, pair(0, 0)))))
        program = (OPEN, (("Count", (0, 0), 0),), rows)
        long = chain("ptr", 59, INT)
        for many, word in ((56, "value"), (58, "value"), (59, "rows")):
            too_large(self, word, comes_to, program, ("Count", chain("ptr", many, INT), long))


class Points102To105(unittest.TestCase):
    def test_judged_as_the_points_read(self):
        words = {"value": 0, "none": 0, "two": 0, "round": 0}
        accepted_others = 0
        for dice, program, use, told in some_done(220, 104):
            words[told[0]] += 1
            self.assertIs(accepts_done(program, use, told), True)
            self.assertIs(plain_programs.accepts_done(program, use, told), True)
            self.assertIs(are_rows(program, told[1]), True)
            others = much_changed(told, dice, 6) + [(word, *told[1:]) for word in words]
            if told[1]:
                rows = list(told[1])
                dice.shuffle(rows)
                others += [(told[0], tuple(rows), *told[2:]), (told[0], told[1][1:], *told[2:]), (told[0], told[1] * 2, *told[2:])]
            for value in others:
                accepted = accepts_done(program, use, value)
                self.assertIs(accepted, plain_programs.accepts_done(program, use, value))
                self.assertTrue(not accepted or value[0] == told[0])
                accepted_others += accepted and value != told
                if isinstance(value, tuple) and len(value) > 1:
                    self.assertIs(are_rows(program, value[1]), plain_programs.right_rows(program, value[1]) is not None)
        self.assertGreater(min(words.values()), 20)
        self.assertGreater(accepted_others, 0)

    def test_rows(self):
        _, rows = done_evidence(EXAMPLE, ("Add", number(2), number(1)))
        self.assertIs(are_rows(EXAMPLE, ()), True)
        for many in range(4):
            self.assertIs(are_rows(EXAMPLE, rows[:many]), True)
        use, pattern, value = rows[1]
        for row in (list(rows[1]), (use, pattern), (*rows[1], 0), (use, (ZERO, 0), value), (use, (0, 1), value),
                    (use, (nxt(1), 0), value),
                    (use, [nxt(0), 1], value), (use, pattern, number(3)), (use, pattern, 0), (use, pattern, ("Add", ZERO, ZERO)),
                    (use, pattern, nxt(("Add", ZERO, number(1)))), (use, pattern, None), (None, pattern, value), (use, None, value),
                    (list(use), pattern, value), (use, (nxt(False), 1), value), (use, (nxt(0), True), value),
                    (("Add", ZERO), pattern, value),
                    (("Half", number(1)), (ZERO,), ZERO), (("Pick", number(1), number(1)), (0, nxt(ZERO)), number(1)),
                    (("Sum", number(1), number(1)), pattern, value), (use, pattern, ["next", number(1)])):
            self.assertIs(are_rows(EXAMPLE, (rows[0], row)), False)
        self.assertIs(are_rows(EXAMPLE, (rows[0], rows[1], rows[1])), False)
        # What a use in the step is, is not what it comes to.
        self.assertIs(are_rows(EXAMPLE, ((use, pattern, nxt(("Add", ZERO, number(1)))),)), False)
        self.assertIs(are_rows(EXAMPLE, ((use, pattern, ("Add", ZERO, number(1))),)), False)
        self.assertIs(are_rows(EXAMPLE, rows[1:]), False)
        self.assertIs(are_rows(EXAMPLE, rows[::-1]), False)
        self.assertIs(are_rows(EXAMPLE, list(rows)), False)
        for value in (*[value for value in NOTHINGS if value != ()], *deep_things()):
            self.assertIs(are_rows(EXAMPLE, value), False)
            self.assertIs(are_rows(EXAMPLE, (value,)), False)
            self.assertIs(are_rows(EXAMPLE, ((value, (ZERO, 0), ZERO),)), False)
            self.assertIs(are_rows(EXAMPLE, ((("Add", ZERO, value), (ZERO, 0), value),)), False)
            self.assertIs(are_rows(EXAMPLE, ((("Add", ZERO, ZERO), value, ZERO),)), False)
            self.assertIs(are_rows(EXAMPLE, ((("Add", ZERO, ZERO), (value, value), ZERO),)), False)
            self.assertIs(are_rows(EXAMPLE, ((("Add", ZERO, ZERO), (ZERO, 0), value),)), False)

    def test_60_and_61_rows(self):
        rows = tuple([(("Add", ZERO, number(i)), (ZERO, 0), number(i)) for i in range(61)])
        self.assertIs(are_rows(EXAMPLE, rows[:60]), True)
        self.assertIs(are_rows(EXAMPLE, rows), False)
        use = rows[0][0]
        self.assertIs(accepts_done(EXAMPLE, use, ("value", (*rows[2:61], rows[0]))), True)
        self.assertIs(accepts_done(EXAMPLE, use, ("value", (*rows[1:61], rows[0]))), False)
        # With the uses of the trail and the last use they are at most 60, too.
        pick = ("Pick", ZERO, ZERO)
        told = done_evidence(EXAMPLE, pick)
        self.assertEqual((told[0], len(told[1]), len(told[2])), ("none", 1, 1))
        for many, right in ((57, True), (58, False), (59, False)):
            more = (*told[1], *[row for row in rows if row != told[1][0]][:many])
            self.assertIs(accepts_done(EXAMPLE, pick, ("none", more, *told[2:])), right)
        spin = ("Spin", ZERO)
        told = done_evidence(EXAMPLE, spin)
        for many, right in ((58, True), (59, False)):
            self.assertIs(accepts_done(EXAMPLE, spin, ("round", (*told[1], *rows[:many]), *told[2:])), right)
        two = ("Pick", number(1), number(1))
        for many, right in ((59, True), (60, False)):
            self.assertIs(accepts_done(EXAMPLE, two, ("two", rows[:many], (), two, (nxt(0), 1), (0, nxt(ZERO)))), right)

    def test_values_of_400_and_401_places_in_rows(self):
        program = (OPEN, (("A", (0,), 0), ("B", (0,), 0)), (("A", (0,), 0), ("B", (0,), ("ptr", 0))))
        long = chain("ptr", 399, INT)
        self.assertIs(are_rows(program, ((("A", long), (0,), long),)), True)
        self.assertIs(are_rows(program, ((("A", ("ptr", long)), (0,), ("ptr", long)),)), False)
        self.assertIs(are_rows(program, ((("B", long[1]), (0,), long),)), True)
        self.assertIs(are_rows(program, ((("B", long), (0,), ("ptr", long)),)), False)

    def test_great_values_are_not_written_out(self):
        """A row could ask for a value of more places than can ever be written."""
        body = pair(pair(pair(0, 0), pair(0, 0)), pair(0, 0))
        program = (OPEN, (("A", (0,), 0),), (("A", (0,), body),))
        value = INT
        for _ in range(6):
            value = pair(value, value)
        wide = value
        for _ in range(30):
            wide = pair(wide, wide)
        self.assertIs(are_rows(program, ((("A", value), (0,), wide),)), False)

    def test_trails(self):
        use = ("Pick", ZERO, ZERO)
        told = done_evidence(EXAMPLE, use)
        self.assertEqual(told, ("none", ((("Add", ZERO, number(1)), (ZERO, 0), number(1)),), ((use, (ZERO, 0)),),
                                ("Half", number(1))))
        _, rows, trail, last = told
        for value in (("none", rows, (), last), ("none", (), trail, last), ("none", rows, trail, use),
                      ("none", rows, trail * 2, last),
                      ("none", rows, (list(trail[0]),), last), ("none", rows, list(trail), last), ("none", list(rows), trail, last),
                      ("none", rows, ((use, (0, nxt(ZERO))),), last), ("none", rows, ((use,),), last),
                      ("none", rows, ((last, (ZERO, 0)),), last),
                      ("none", rows, trail, ("Half", number(2))), ("none", rows, trail, ("Add", ZERO, number(1))),
                      ("none", rows, trail, list(last)), ("none", rows, trail, None), ("round", rows, trail, last), ("value", rows),
                      ("none", rows, trail), ("none", rows, trail, last, 0), ["none", *told[1:]], ("None", *told[1:]),
                      ("two", rows, trail, last, (ZERO,), (nxt(nxt(0)),))):
            self.assertIs(accepts_done(EXAMPLE, use, value), False)
        # For the last use itself, or another one, this is no evidence.
        self.assertIs(accepts_done(EXAMPLE, last, told), False)
        self.assertIs(accepts_done(EXAMPLE, last, ("none", rows, (), last)), True)
        self.assertIs(accepts_done(EXAMPLE, ("Pick", ZERO, number(1)), told), False)

    def test_the_first_use_without_a_row(self):
        """The one that is listed first, though another one has no row either."""
        generics = (("A", (0,), 0), ("B", (0,), 0), ("C", (0, 0), 0))
        program = (NUMBERS, generics, (("A", (0,), ("C", ("B", nxt(0)), ("B", 0))),))
        trail = ((("A", ZERO), (0,)),)
        self.assertIs(accepts_done(program, ("A", ZERO), ("none", (), trail, ("B", number(1)))), True)
        self.assertIs(accepts_done(program, ("A", ZERO), ("none", (), trail, ("B", ZERO))), False)
        self.assertIs(accepts_done(program, ("A", ZERO), ("none", (), trail, ("C", ZERO, ZERO))), False)

    def test_two_patterns(self):
        """Any two that match, in either order, with none below both that matches."""
        generics = (("B", (0, 0), 0),)
        patterns = ((0, 1), (0, nxt(1)), (nxt(0), 1), (nxt(0), 0), (nxt(0), nxt(nxt(1))))
        program = (NUMBERS, generics, tuple([("B", pattern, ZERO) for pattern in patterns]))
        use = ("B", number(2), number(1))
        self.assertEqual(done_evidence(program, use), ("two", (), (), use, patterns[1], patterns[3]))
        for one in (*patterns, (0, 0), (nxt(1), 0), None, [0, nxt(1)], (0,)):
            for other in (*patterns, (ZERO, ZERO), None):
                right = (one, other) in ((patterns[1], patterns[3]), (patterns[3], patterns[1]), (patterns[1], patterns[2]),
                                         (patterns[2], patterns[1]))
                self.assertIs(accepts_done(program, use, ("two", (), (), use, one, other)), right)
        self.assertIs(accepts_done(program, use, ("two", (), (), use, (0, nxt(True)), patterns[2])), False)

    def test_rounds(self):
        generics = (("A", (0,), 0),)
        program = (NUMBERS, generics, (("A", (nxt(nxt(0)),), ("A", nxt(0))), ("A", (nxt(ZERO),), ("A", ZERO)),
                                       ("A", (ZERO,), ("A", nxt(ZERO)))))
        _, rows, trail, last = done_evidence(program, ("A", number(3)))
        self.assertIs(accepts_done(program, ("A", number(3)), ("round", rows, trail, last)), True)
        longer = (*trail, trail[2])
        self.assertIs(accepts_done(program, ("A", number(3)), ("round", rows, longer, trail[3][0])), False)
        self.assertIs(accepts_done(program, ("A", number(3)), ("round", rows, trail[:3], trail[3][0])), False)
        self.assertIs(accepts_done(program, ("A", number(3)), ("round", rows, trail[1:], last)), False)

    def test_whatever_is_judged(self):
        use = ("Pick", ZERO, ZERO)
        _, rows, trail, last = done_evidence(EXAMPLE, use)
        for value in (*NOTHINGS, *deep_things()):
            for evidence in (value, (value,), ("value", value), ("value", (value,)), ("none", value, trail, last),
                             ("none", (value,), trail, last),
                             ("none", rows, value, last), ("none", rows, (value,), last), ("none", rows, ((use, value),), last),
                             ("none", rows, ((value, (ZERO, 0)),), last), ("none", rows, trail, value),
                             ("none", rows, trail, ("Half", value)),
                             (value, rows, trail, last), ("two", rows, trail, last, value, value), ("round", rows, value, use),
                             ("round", value, value, value), ("two", value, value, value, value, value)):
                self.assertIs(accepts_done(EXAMPLE, use, evidence), False)

    def test_right_rows_come_to_the_values(self):
        """Point 103."""
        for _, program, _, told in some_done(80, 103):
            for many in range(len(told[1]) + 1):
                self.assertIs(are_rows(program, told[1][:many]), True)
            for use, pattern, value in told[1]:
                if is_use(program, use):
                    self.assertEqual(comes_to(program, use), ("value", value))
                    self.assertEqual(program[2][chosen(program, use)][1], pattern)

    def test_sound_uses_lead_to_no_none_and_no_two(self):
        """Point 94: an evaluation of a use that has a choice."""
        many = 0
        dice = random.Random(105)
        for program in [lively_program(dice) for _ in range(250)]:
            if told_or_word(stuck_uses, program) != ():
                continue
            for _ in range(4):
                use = fitting_use(program, dice)
                told = told_or_word(comes_to, program, use)
                if isinstance(chosen(program, use), int):
                    many += 1
                    self.assertIn(told if isinstance(told, str) else told[0], ("value", "round", "rows", "value"))
        self.assertGreater(many, 50)


class Points106To110(unittest.TestCase):
    def test_the_told_rows_are_needed(self):
        """Point 106: without one of them nothing is accepted, with others everything is, in every right order."""
        many = 0
        for dice, program, use, told in some_done(150, 106):
            for at in range(len(told[1])):
                part = told[1][:at] + told[1][at + 1:]
                self.assertIs(accepts_done(program, use, (told[0], part, *told[2:])), False)
            other = told_or_word(done_evidence, program, fitting_use(program, dice))
            uses = [row[0] for row in told[1]]
            if not isinstance(other, tuple) or len(uses) + len(other[1]) > 40:
                continue
            # What has come behind a trouble is not needed, but what is begun there has no row.
            more = tuple([row for row in other[1] if row[0] not in uses])
            rows = (*more, *told[1]) if told[0] == "value" and are_rows(program, (*more, *told[1])) else (*told[1], *more)
            right = told[0] != "value" or rows[-1:] == told[1][-1:]
            many += right and more != ()
            self.assertIs(accepts_done(program, use, (told[0], rows, *told[2:])), right)
        self.assertGreater(many, 60)

    def test_rows_that_are_put_together(self):
        """Point 109."""
        many = 0
        for dice, program, use, told in some_done(120, 109):
            other = told_or_word(done_evidence, program, fitting_use(program, dice))
            if isinstance(other, tuple):
                uses = [row[0] for row in told[1]]
                both = (*told[1], *[row for row in other[1] if row[0] not in uses])
                many += both != told[1]
                self.assertIs(are_rows(program, both), len(both) <= 60)
        self.assertGreater(many, 60)

    def test_another_order(self):
        """Point 107: from the right to the left a use comes to the same value, by the same uses."""
        many = 0
        for _, program, use, told in some_done(200, 107):
            found = from_the_right(program, use)
            if told[0] == "value":
                many += len(told[1]) > 2
                self.assertEqual(found, {row[0]: row[2] for row in told[1]})
            else:
                self.assertNotIsInstance(found, dict)
        self.assertGreater(many, 30)

    def test_further_definitions(self):
        """Point 108."""
        found = {True: 0, False: 0}
        for dice, program, use, told in some_done(150, 108):
            for extra in self.some_definitions(program, told, dice):
                more = (*program[:2], (*program[2], extra))
                if not is_program(more):
                    continue
                right = self.stays(program, told, extra[0], extra[1])
                found[right] += 1
                self.assertIs(accepts_done(more, use, told), right)
        self.assertGreater(min(found.values()), 60)

    def some_definitions(self, program, told, dice):
        """Definitions whose patterns often match a use in the evidence."""
        uses = [row[0] for row in (*told[1], *(told[2] if len(told) > 2 else ()))] + list(told[3:4])
        generics = {name: (kinds, kind) for name, kinds, kind in program[1]}
        for use in dice.sample(uses, min(3, len(uses))):
            kinds, kind = generics[use[0]]
            body = plain.ordered_values(program[0], kind, 0, 3)[:1]
            pool = []

            def general(term, depth):
                if term[0] == "#" or depth == 0 or dice.random() < 0.4:
                    pool.append(len(pool))
                    return pool[-1]
                return (term[0], *[general(part, depth - 1) for part in term[1:]])
            pattern = tuple([general(term, 3) for term in use[1:]])
            yield (use[0], plain_cases.numbered(pattern), body[0] if body else 0)

    def stays(self, program, told, name, new):
        beside = [(use, pattern) for use, pattern, *_ in (*told[1], *(told[2] if len(told) > 2 else ())) if use[0] == name]
        for use, pattern in beside:
            if plain_cases.match(new, use[1:]) is not None and not plain_cases.is_below(pattern, new):
                return False
        if told[0] in ("none", "two") and told[3][0] == name and plain_cases.match(new, told[3][1:]) is not None:
            return told[0] == "two" and not all(plain_cases.is_below(new, pattern) for pattern in told[4:])
        return True

    def test_definitions_that_are_taken_out(self):
        """Point 108."""
        found = {True: 0, False: 0}
        for _, program, use, told in some_done(150, 118):
            for at, (name, pattern, _) in enumerate(program[2]):
                fewer = (*program[:2], program[2][:at] + program[2][at + 1:])
                beside = [(row[0][0], row[1]) for row in (*told[1], *(told[2] if len(told) > 2 else ()))]
                if told[0] == "two":
                    beside += [(told[3][0], named) for named in told[4:]]
                right = (name, pattern) not in beside
                found[right] += 1
                self.assertIs(accepts_done(fewer, use, told), right)
        self.assertGreater(min(found.values()), 60)

    def test_strangers_are_exchanged(self):
        """Point 110: for other strangers, and for what is made by a further constructor."""
        many = 0
        for dice, program, use, told in some_done(200, 110, 3):
            kinds = plain_programs.kinds_of(program, use[0])
            strangers = sorted(set(plain.all_strangers(program[0], kinds, use[1:])))
            opened = [kind for kind in range(len(program[0])) if plain.is_open(program[0], kind)]
            if not strangers or any(len(program[0][kind][1]) == 4 for kind in opened):
                continue
            signature = program[0]
            for kind in opened:
                signature = with_constructor(signature, kind, (f"zz{'abc'[kind]}", (kind,)))
            new = {}
            for kind, at in strangers:
                new[(kind, at)] = dice.choice((("#", at + 7), (f"zz{'abc'[kind]}", ("#", at))))
            more = (signature, *program[1:])
            self.assertIs(accepts_done(more, use, told), True)
            exchange = tuple((kind, at, value) for (kind, at), value in new.items())
            moved = (use[0], *exchanged(signature, kinds, use[1:], exchange))
            many += 1
            self.assertEqual(done_evidence(more, moved), self.exchanged_everywhere(program, told, new))
            self.assertIs(accepts_done(more, moved, self.exchanged_everywhere(program, told, new)), True)
        self.assertGreater(many, 60)

    def exchanged_everywhere(self, program, told, new):
        """The evidence with the strangers of all its uses and values exchanged."""
        generics = {name: (kinds, kind) for name, kinds, kind in program[1]}

        def value(kind, term):
            return plain.changed(program[0], kind, term, lambda near, at: new.get((near, at), ("#", at)))

        def moved(use):
            return (use[0], *[value(kind, term) for kind, term in zip(generics[use[0]][0], use[1:])])
        rows = tuple((moved(use), pattern, value(generics[use[0]][1], worth)) for use, pattern, worth in told[1])
        if told[0] == "value":
            return ("value", rows)
        return (told[0], rows, tuple((moved(use), pattern) for use, pattern in told[2]), moved(told[3]), *told[4:])


def from_the_right(program, use):
    """The values of all uses, done with later arguments first; or a word."""
    values, begun = {}, []

    def value_of(term):
        if term[0] == "#":
            return term
        term = (term[0], *[value_of(part) for part in term[:0:-1]][::-1])
        return do(term) if plain_programs.is_use_of(program, term) else term

    def do(here):
        if here not in values:
            if here in begun or len(begun) > 90 or not isinstance(plain_programs.choice(program, here), int):
                raise plain_programs.Large("stop")
            begun.append(here)
            values[here] = value_of(step(program, here))
        return values[here]
    try:
        do(use)
        return values
    except (plain_programs.Large, ValueError):
        return "stop"


class Point111(unittest.TestCase):
    def test_wrong_arguments(self):
        for function in (comes_to, done_evidence, lambda p, u: accepts_done(p, u, None)):
            for program in (*NOTHINGS, *deep_things(), list(EXAMPLE), (NUMBERS, (), ())):
                bad(self, "program", function, program, None)
            for use in (*NOTHINGS, *deep_things(), ("Add", ZERO), ("Add", number(60), ZERO), ["Add", ZERO, ZERO], ("Add", 0, 1),
                        ("Add", ZERO, ["zero"]), ("Sum", ZERO, ZERO), (True, ZERO, ZERO)):
                bad(self, "use", function, EXAMPLE, use)
        for program in (*NOTHINGS, *deep_things(), list(EXAMPLE)):
            bad(self, "program", are_rows, program, ())
        self.assertRaises(TooLarge, comes_to, (OPEN, (("A", (0,), 0),), (("A", (0,), ("A", ("ptr", 0))),)), ("A", INT))
        self.assertEqual(comes_to((TYPES, (("A", (0,), 0),), (("A", (0,), 0),)), ("A", ("#", 3))), ("value", ("#", 3)))

    def test_the_same_call_returns_the_same(self):
        """Point 2."""
        for _, program, use, told in some_done(20, 111):
            self.assertEqual(done_evidence(program, use), told)
            self.assertEqual(comes_to(program, use), comes_to(program, use))


class Point112(unittest.TestCase):
    def test_example(self):
        self.assertEqual(comes_to(EXAMPLE, ("Add", number(2), number(3))), ("value", number(5)))
        self.assertEqual(comes_to(EXAMPLE, ("Half", number(4))), ("value", number(2)))
        self.assertEqual(comes_to(EXAMPLE, ("Pick", ZERO, number(2))), ("none", (
            (("Pick", ZERO, number(2)), (ZERO, 0)),), ("Half", number(1))))
        self.assertEqual(comes_to(EXAMPLE, ("Pick", number(1), number(1))),
                         ("two", (), ("Pick", number(1), number(1)), (nxt(0), 1), (0, nxt(ZERO))))
        told = done_evidence(EXAMPLE, ("Spin", ZERO))
        self.assertEqual(told, ("round", ((("Half", ZERO), (ZERO,), ZERO),), ((("Spin", ZERO), (0,)),), ("Spin", ZERO)))


if __name__ == "__main__":
    unittest.main()
