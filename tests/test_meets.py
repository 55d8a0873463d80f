"""Points 28 to 36: meets."""

import random
import unittest

from closestfit.errors import TooLarge
from closestfit.meets import accepts_meet, meet_evidence, meet_of
from closestfit.patterns import is_below, is_case, matches
from tests import plain, plain_cases
from tests.makers import much_changed, odd_case, some_kinds, tangled_case, values_of
from tests.samples import NOTHINGS, NUMBERS, ONE, TYPES, bad, chain, deep_things, some_signatures, too_large

INT = ("int",)
PAIRS = (("open", (("pair", (0, 0)),)),)


def ptr(term):
    return ("ptr", term)


def pair(one, other):
    return ("pair", one, other)


class Point28(unittest.TestCase):
    def test_meets(self):
        self.assertEqual(meet_of(TYPES, (0, 0), (0, 0), (ptr(0), 1)), (ptr(0), ptr(0)))
        self.assertEqual(meet_of(TYPES, (0, 0), (7, 3), (3, 7)), (0, 1))
        self.assertEqual(meet_of(TYPES, (0, 0), (pair(4, 2), 2), (9, ptr(8))), (pair(0, ptr(1)), ptr(1)))
        self.assertEqual(meet_of(TYPES, (0,), (INT,), (0,)), (INT,))
        self.assertEqual(meet_of(TYPES, (0, 0, 0), (0, 1, pair(0, 1)), (ptr(0), INT, 1)), (ptr(0), INT, pair(ptr(0), INT)))

    def test_no_meets(self):
        self.assertIsNone(meet_of(TYPES, (0,), (INT,), (ptr(0),)))
        self.assertIsNone(meet_of(TYPES, (0, 0), (0, 0), (INT, ptr(0))))
        self.assertIsNone(meet_of(TYPES, (0, 0), (0, 0), (0, ptr(0))))
        self.assertIsNone(meet_of(TYPES, (0, 0), (pair(4, 2), 2), (9, ptr(9))))

    def test_closed_kinds_too_meet_by_their_terms(self):
        self.assertEqual(meet_of(ONE, (0, 0), (0, 0), (("one",), 0)), (("one",), ("one",)))
        self.assertEqual(meet_of(NUMBERS, (0, 0), (0, ("next", 1)), (1, 1)), (("next", 0), ("next", 0)))

    def test_variables_of_the_two_have_nothing_to_do_with_one_another(self):
        self.assertEqual(meet_of(TYPES, (0, 0), (0, 1), (ptr(1), 0)), (ptr(0), 1))
        self.assertEqual(meet_of(TYPES, (0,), (0,), (ptr(0),)), (ptr(0),))
        self.assertEqual(meet_of(NUMBERS, (0, 1), (0, 1), (1, 0)), (0, 1))

    def test_great_variables(self):
        self.assertEqual(meet_of(TYPES, (0, 0), (10 ** 40, 5), (ptr(10 ** 41), 10 ** 41)), (ptr(0), 0))
        evidence = meet_evidence(TYPES, (0, 0), (10 ** 40, 5), (ptr(10 ** 41), 10 ** 41))
        self.assertIs(accepts_meet(TYPES, (0, 0), (10 ** 40, 5), (ptr(10 ** 41), 10 ** 41), evidence), True)

    def test_all_shapes(self):
        dice = random.Random(28)
        for signature in some_signatures(250, 41):
            kinds = some_kinds(signature, dice)
            one, other = odd_case(signature, kinds, dice), odd_case(signature, kinds, dice)
            right = plain_cases.meet(one, other)
            if right == "large":
                continue
            told = meet_of(signature, kinds, one, other)
            self.assertEqual(told, right)
            for values in (values_of(signature, kinds, one, dice), values_of(signature, kinds, other, dice),
                           values_of(signature, kinds, one if told is None else told, dice)):
                both = matches(signature, kinds, one, values) and matches(signature, kinds, other, values)
                self.assertIs(both, told is not None and matches(signature, kinds, told, values))

    def test_below_both_and_above_all_that_are(self):
        dice = random.Random(29)
        found = 0
        for _ in range(400):
            one, other, third = [odd_case(TYPES, (0, 0), dice, 4) for _ in range(3)]
            told = meet_of(TYPES, (0, 0), one, other)
            if told is not None and dice.random() < 0.5:
                third = plain_cases.put(told, {variable: dice.choice((INT, ptr(3), 3, 4)) for variable in range(5)})
            below = is_below(TYPES, (0, 0), third, one) and is_below(TYPES, (0, 0), third, other)
            if told is not None:
                self.assertIs(is_below(TYPES, (0, 0), told, one), True)
                self.assertIs(is_below(TYPES, (0, 0), told, other), True)
                self.assertIs(is_below(TYPES, (0, 0), third, told), below)
                self.assertEqual(told, plain_cases.numbered(told))
                found += below
            self.assertTrue(told is not None or not below)
        self.assertGreater(found, 50)


class Point29(unittest.TestCase):
    def test_in_any_order(self):
        dice = random.Random(30)
        for _ in range(300):
            one, other, third = [odd_case(TYPES, (0, 0), dice, 5) for _ in range(3)]
            told = meet_of(TYPES, (0, 0), one, other)
            self.assertEqual(meet_of(TYPES, (0, 0), other, one), told)
            below = is_below(TYPES, (0, 0), one, other)
            self.assertIs(below, told is not None and told == plain_cases.numbered(one))
            if told is not None:
                left = meet_of(TYPES, (0, 0), told, third)
                right = meet_of(TYPES, (0, 0), other, third)
                if left is not None:
                    self.assertEqual(meet_of(TYPES, (0, 0), one, right), left)


class Points30To33(unittest.TestCase):
    """The judge: rows, chains, rings and solved ones."""

    def judge(self, one, other, value, right, kinds=None):
        told = accepts_meet(TYPES, kinds or (0,) * len(one), one, other, value)
        self.assertIs(told, right)
        self.assertIs(plain_cases.accepts_meet(one, other, value), right)

    def test_the_example_of_point_36(self):
        one, other = (0, 0), (0, ptr(0))
        rows = ((0, 1, ("given", 0)), (0, ptr(1), ("given", 1)), (1, ptr(1), ("chain", (0, 1))))
        self.judge(one, other, ("apart", rows, (2,)), True)
        self.judge(one, other, ("apart", rows, ()), False)
        self.judge(one, other, ("apart", rows, (1,)), False)
        self.judge(one, other, ("apart", rows, (0, 1)), False)
        self.judge(one, other, ("apart", rows, (2, 2, 2)), True)
        self.judge(one, other, ("apart", rows[:2], (2,)), False)
        self.judge(one, other, ("apart", (rows[0], rows[2], rows[1]), (1,)), False)
        self.judge(one, other, ("apart", (*rows[:2], (1, ptr(1), ("chain", (1, 0)))), (2,)), False)

    def test_variables_of_the_other_one_are_raised(self):
        one, other = (3, 3), (0, ptr(0))
        rows = ((3, 4, ("given", 0)), (3, ptr(4), ("given", 1)), (4, ptr(4), ("chain", (0, 1))))
        self.judge(one, other, ("apart", rows, (2,)), True)
        lower = ((3, 1, ("given", 0)), (3, ptr(1), ("given", 1)), (1, ptr(1), ("chain", (0, 1))))
        self.judge(one, other, ("apart", lower, (2,)), False)
        one, other = (INT, INT), (0, ptr(0))
        self.judge(one, other, ("apart", ((INT, 0, ("given", 0)), (INT, ptr(0), ("given", 1))), ()), True)
        self.judge(one, other, ("apart", ((INT, 1, ("given", 0)), (INT, ptr(1), ("given", 1))), ()), False)

    def test_the_last_row_without_a_ring(self):
        one, other = (INT, 0), (0, ptr(0))
        rows = ((INT, 1, ("given", 0)), (0, ptr(1), ("given", 1)))
        self.judge(one, other, ("apart", rows, ()), False)
        self.judge(one, other, ("apart", (), ()), False)
        one, other = (INT, 0), (ptr(0), 1)
        clash = (INT, ptr(1), ("given", 0))
        self.judge(one, other, ("apart", (clash,), ()), True)
        self.judge(one, other, ("apart", (clash, (0, 2, ("given", 1))), ()), False)
        self.judge(one, other, ("apart", ((0, 2, ("given", 1)), clash), ()), True)
        self.judge(one, other, ("apart", ((0, 2, ("given", 1)), clash, clash), ()), True)

    def test_parts(self):
        one, other = (pair(INT, 0), 0), (pair(0, ptr(1)), INT)
        given = (pair(INT, 0), pair(1, ptr(2)), ("given", 0))
        rows = (given, (0, ptr(2), ("part", 0, 1)), (0, INT, ("given", 1)), (ptr(2), INT, ("chain", (1, 2))))
        self.judge(one, other, ("apart", rows, ()), True)
        for wrong in (("part", 0, 0), ("part", 1, 0), ("part", 0, 2), ("part", 0, -1), ("part", -1, 1), ("part", 0, True),
                      ("part", False, 1), ("part", 0), ("part", 0, 1, 1), ["part", 0, 1], ("part", None, 1),
                      ("part", 0, None), ("given", 0), ("given", 1), ("chain", (0,)), ("parts", 0, 1)):
            self.judge(one, other, ("apart", (given, (0, ptr(2), wrong), *rows[2:]), ()), False)
        self.judge(one, other, ("apart", (given, (ptr(2), 0, ("part", 0, 1)), *rows[2:]), ()), False)

    def test_parts_of_sides_with_different_constructors(self):
        one, other = (ptr(0), 0), (pair(0, 1), 0)
        rows = ((ptr(0), pair(1, 2), ("given", 0)), (0, 1, ("part", 0, 0)))
        self.judge(one, other, ("apart", (*rows, rows[0]), ()), False)
        self.judge(one, other, ("apart", (rows[0], rows[0]), ()), True)

    def test_given_rows(self):
        one, other = (INT, 0), (ptr(0), 1)
        for wrong in (("given", 1), ("given", 2), ("given", -1), ("given", False), ("given", None), ("given",), ("given", 0, 0),
                      ("given", "0"), ("given", (0,)), ["given", 0], ("Given", 0), None, (), "given", (0, "given")):
            self.judge(one, other, ("apart", ((INT, ptr(1), wrong),), ()), False)
        for row in ((ptr(1), INT, ("given", 0)), (INT, ptr(0), ("given", 0)), (INT, ["ptr", 1], ("given", 0)),
                    [INT, ptr(1), ("given", 0)], (INT, ptr(1)), (INT, ptr(1), ("given", 0), 0), (INT, ptr(True), ("given", 0)),
                    (0, ptr(1), ("given", 0)), (INT, None, ("given", 0)), None, ()):
            self.judge(one, other, ("apart", (row,), ()), False)

    def test_chains_of_1_200_and_201(self):
        one, other = (0, 0), (0, ptr(0))
        given = ((0, 1, ("given", 0)), (0, ptr(1), ("given", 1)))
        for many, right in ((1, False), (2, True), (3, False), (198, True), (200, True), (201, False), (202, False)):
            # There and back again as long as there is room, and then on to the end.
            steps = (0,) * (many - 1) + (1,)
            row = (1, ptr(1), ("chain", steps)) if many % 2 == 0 else (0, ptr(1), ("chain", steps))
            self.judge(one, other, ("apart", (*given, row, (1, ptr(1), ("chain", (0, 2)))), (3,)),
                       many <= 200 and many % 2 == 1)
            self.judge(one, other, ("apart", (*given, row), (2,)), right)
        self.judge(one, other, ("apart", (*given, (1, ptr(1), ("chain", (0, 1)))), (2,)), True)
        self.judge(one, other, ("apart", (*given, (1, ptr(1), ("chain", ()))), (2,)), False)
        self.judge(one, other, ("apart", (*given, (1, 1, ("chain", ())), (1, ptr(1), ("chain", (0, 1)))), (3,)), False)
        self.judge(one, other, ("apart", (*given, (1, 1, ("chain", (0, 0))), (1, ptr(1), ("chain", (0, 1)))), (3,)), True)

    def test_odd_chains(self):
        one, other = (0, 0), (0, ptr(0))
        given = ((0, 1, ("given", 0)), (0, ptr(1), ("given", 1)))
        for chained in ([0, 1], (0, True), (False, 1), (0, None), (0, 2), (0, -1), (1, 0), 0, None, (0, (1,)), (0,), (1,),
                        (0, 1, 0), "01"):
            self.judge(one, other, ("apart", (*given, (1, ptr(1), ("chain", chained))), (2,)), False)
        self.judge(one, other, ("apart", (*given, (1, ptr(1), ("chain", (0, 1), ()))), (2,)), False)
        self.judge(one, other, ("apart", (*given, (ptr(1), 1, ("chain", (1, 0)))), (2,)), False)

    def test_1000_and_1001_rows(self):
        one, other = (INT, 0), (ptr(0), 1)
        clash, more = (INT, ptr(1), ("given", 0)), (0, 2, ("given", 1))
        self.judge(one, other, ("apart", (more,) * 999 + (clash,), ()), True)
        self.judge(one, other, ("apart", (more,) * 1000 + (clash,), ()), False)
        one, other = (0,), (ptr(0),)
        rows = ((0, ptr(1), ("given", 0)),)
        self.judge(one, other, ("meet", (ptr(0),), rows * 1000, (0,)), True)
        self.judge(one, other, ("meet", (ptr(0),), rows * 1000, (999,)), True)
        self.judge(one, other, ("meet", (ptr(0),), rows * 1001, (0,)), False)

    def test_rings_and_solved_ones_of_1000_and_1001(self):
        one, other = (0, 0), (0, ptr(0))
        rows = ((0, 1, ("given", 0)), (0, ptr(1), ("given", 1)), (1, ptr(1), ("chain", (0, 1))))
        self.judge(one, other, ("apart", rows, (2,) * 1000), True)
        self.judge(one, other, ("apart", rows, (2,) * 1001), False)
        one, other = (0,), (ptr(0),)
        rows = ((0, ptr(1), ("given", 0)),)
        self.judge(one, other, ("meet", (ptr(0),), rows, (0,) * 1000), True)
        self.judge(one, other, ("meet", (ptr(0),), rows, (0,) * 1001), False)

    def test_rings_of_several_rows(self):
        one, other = (0, 1), (ptr(1), pair(0, 0))
        # Raised, the other one is (ptr(3), pair(2, 2)): no ring there.
        self.assertEqual(meet_of(TYPES, (0, 0), one, other), (ptr(0), pair(1, 1)))
        one, other = (0, 1), (ptr(2), ptr(3))
        self.assertEqual(meet_of(TYPES, (0, 0), one, other), (ptr(0), ptr(1)))
        one, other = (0, 1, 0, 1), (ptr(0), pair(INT, 1), 1, 0)
        rows = ((0, ptr(2), ("given", 0)), (1, pair(INT, 3), ("given", 1)), (0, 3, ("given", 2)), (1, 2, ("given", 3)),
                (3, ptr(2), ("chain", (2, 0))), (2, pair(INT, 3), ("chain", (3, 1))))
        self.judge(one, other, ("apart", rows, (4, 5)), True)
        self.judge(one, other, ("apart", rows, (5, 4)), True)
        self.judge(one, other, ("apart", rows, (4, 5, 4, 5)), True)
        for ring in ((4,), (5,), (4, 4), (4, 5, 5), (0, 5), (4, 1), [4, 5], (4, True), (4, 6), (4, -1), (4, None), 4, None):
            self.judge(one, other, ("apart", rows, ring), False)

    def test_a_proper_part_at_whatever_depth(self):
        deep = pair(INT, chain("ptr", 5, 0))
        one, other = (0, 0), (0, deep)
        raised = pair(INT, chain("ptr", 5, 1))
        rows = ((0, 1, ("given", 0)), (0, raised, ("given", 1)), (1, raised, ("chain", (0, 1))), (1, 1, ("chain", (0, 0))))
        self.judge(one, other, ("apart", rows, (2,)), True)
        self.judge(one, other, ("apart", rows, (3,)), False)
        self.judge(one, other, ("apart", rows, (0,)), False)

    def test_solved_rows(self):
        one, other = (0, pair(0, 1)), (ptr(1), 0)
        # Raised, the other one is (ptr(3), 2).
        rows = ((0, ptr(3), ("given", 0)), (pair(0, 1), 2, ("given", 1)), (2, pair(0, 1), ("chain", (1,))))
        meet = (ptr(0), pair(ptr(0), 1))
        self.judge(one, other, ("meet", meet, rows, (2, 0)), True)
        self.judge(one, other, ("meet", meet, rows, (2, 0, 2, 0)), True)
        self.judge(one, other, ("meet", meet, rows, (0, 2)), False)
        self.judge(one, other, ("meet", meet, rows, (0, 2, 0)), True)
        for solved in ((2,), (0,), (1, 0), (), [2, 0], (2, False), (2, 3), (2, -1), None, (2, None), (2, "0"), (2, (0,))):
            self.judge(one, other, ("meet", meet, rows, solved), False)
        for wrong in ((ptr(0), pair(ptr(0), 0)), (ptr(1), pair(ptr(1), 0)), [ptr(0), pair(ptr(0), 1)], (ptr(0),), None,
                      (ptr(False), pair(ptr(0), 1)), (ptr(0), pair(ptr(0), True)), (*meet, 2), (ptr(0), ["pair", ptr(0), 1])):
            self.judge(one, other, ("meet", wrong, rows, (2, 0)), False)

    def test_a_meet_that_is_not_the_meet(self):
        """Something below both can not be told, as the rows say no more than the two cases do."""
        one, other = (0, 1), (0, 1)
        rows = ((0, 2, ("given", 0)), (1, 3, ("given", 1)))
        self.judge(one, other, ("meet", (0, 1), rows, (0, 1)), True)
        self.judge(one, other, ("meet", (0, 0), rows, (0, 1)), False)
        self.judge(one, other, ("meet", (0, 0), (*rows, (0, 3, ("chain", (0, 1)))), (0, 1, 2)), False)
        self.judge(one, other, ("meet", (INT, 0), rows, (0, 1)), False)

    def test_a_meet_without_rows(self):
        self.judge((INT, ptr(INT)), (INT, ptr(INT)), ("meet", (INT, ptr(INT)), (), ()), True)
        self.judge((INT, ptr(INT)), (INT, ptr(INT)), ("meet", (INT, ptr(INT)), ((INT, INT, ("given", 0)),), ()), True)
        self.judge((INT, 0), (INT, INT), ("meet", (INT, INT), (), ()), False)

    def test_evidence_of_the_other_word_and_of_other_forms(self):
        one, other = (0, 0), (0, ptr(0))
        apart = meet_evidence(TYPES, (0, 0), one, other)
        self.judge(one, other, apart, True)
        self.judge(one, other, ("meet", *apart[1:]), False)
        self.judge((0, 1), (0, ptr(0)), apart, False)
        met = meet_evidence(TYPES, (0, 0), (0, 1), (0, ptr(0)))
        self.judge((0, 1), (0, ptr(0)), met, True)
        self.judge(one, other, met, False)
        for value in ((*apart, ()), apart[:2], ("Apart", *apart[1:]), list(apart), (met[0], met[2], met[1], met[3]),
                      ("apart", list(apart[1]), apart[2]), ("apart", apart[1], list(apart[2])), apart[1:], (apart,),
                      ("apart", None, apart[2]), ("apart", (None,), ())):
            self.judge(one, other, value, False)
        for value in ((*met, ()), met[:3], ("meets", *met[1:]), list(met), ("meet", met[1], list(met[2]), met[3]),
                      ("meet", met[1], met[2], list(met[3])), ("meet", None, *met[2:])):
            self.judge((0, 1), (0, ptr(0)), value, False)

    def test_whatever_is_judged(self):
        for one, other in (((0, 0), (0, ptr(0))), ((0, 1), (0, ptr(0)))):
            given = ((0, 1 if one[1] == 0 else 2, ("given", 0)),)
            for value in (*NOTHINGS, *deep_things()):
                for evidence in (value, (value,), ("apart", value, ()), ("apart", value, value), ("apart", (value,), ()),
                                 ("apart", ((0, value, ("given", 0)),), ()), ("apart", ((value, 1, ("given", 0)),), ()),
                                 ("apart", ((0, 1, value),), ()), ("apart", ((0, 1, ("given", value)),), ()),
                                 ("apart", (*given, (0, 1, ("chain", value))), ()), ("apart", given, value),
                                 ("apart", (*given, (value, 1, ("chain", (0, 0)))), ()),
                                 ("apart", given, (value,)), ("meet", value, given, ()), ("meet", (value, value), given, (0,)),
                                 ("meet", (0, ptr(0)), value, ()), ("meet", (0, ptr(0)), given, value),
                                 ("meet", (0, ptr(0)), given, (value,)), (value, given, ())):
                    self.assertIs(accepts_meet(TYPES, (0, 0), one, other, evidence), False)

    def test_told_evidence_is_accepted_in_all_shapes(self):
        dice = random.Random(33)
        words = {"apart": 0, "meet": 0, "ring": 0}
        for number in range(500):
            signature = dice.choice((PAIRS, PAIRS, TYPES))
            kinds = (0,) * dice.randint(1, 5)
            variables = dice.randint(2, 9)
            one = tangled_case(signature, kinds, dice, dice.choice((4, 8, 14)), variables)
            other = tangled_case(signature, kinds, dice, dice.choice((4, 8, 14)), variables)
            if not is_case(signature, kinds, one) or not is_case(signature, kinds, other):
                continue
            right = plain_cases.meet(one, other)
            if right == "large":
                too_large(self, "terms", meet_evidence, signature, kinds, one, other)
                too_large(self, "terms", meet_of, signature, kinds, one, other)
                continue
            self.assertEqual(meet_of(signature, kinds, one, other), right)
            told = meet_evidence(signature, kinds, one, other)
            words[told[0]] += 1
            words["ring"] += told[0] == "apart" and told[2] != ()
            self.assertEqual(told[0], "apart" if right is None else "meet")
            if right is not None:
                self.assertEqual(told[1], right)
            self.assertIs(plain_cases.accepts_meet(one, other, told), True)
            self.assertIs(accepts_meet(signature, kinds, one, other, told), True)
            for value in much_changed(told, dice, 12):
                accepted = accepts_meet(signature, kinds, one, other, value)
                self.assertIs(accepted, plain_cases.accepts_meet(one, other, value))
                self.assertTrue(not accepted or value[0] == told[0])
        self.assertGreater(min(words.values()), 50)

    def test_told_evidence_with_signatures_of_all_shapes(self):
        dice = random.Random(34)
        for signature in some_signatures(150, 42):
            kinds = some_kinds(signature, dice)
            one, other = odd_case(signature, kinds, dice, 6), odd_case(signature, kinds, dice, 6)
            try:
                told = meet_evidence(signature, kinds, one, other)
            except TooLarge:
                continue
            self.assertIs(accepts_meet(signature, kinds, one, other, told), True)
            self.assertIs(plain_cases.accepts_meet(one, other, told), True)


class Point34(unittest.TestCase):
    def test_60_and_61_places(self):
        one, other = (0, 0), (chain("ptr", 29, INT), 0)
        meet = meet_of(TYPES, (0, 0), one, other)
        self.assertEqual(plain_cases.size(meet), 60)
        told = meet_evidence(TYPES, (0, 0), one, other)
        self.assertEqual(told[:2], ("meet", meet))
        self.assertIs(accepts_meet(TYPES, (0, 0), one, other, told), True)
        one, other = (0, 0, 1), (chain("ptr", 29, INT), 0, 1)
        too_large(self, "terms", meet_of, TYPES, (0, 0, 0), one, other)
        too_large(self, "terms", meet_evidence, TYPES, (0, 0, 0), one, other)
        too_large(self, "terms", meet_of, TYPES, (0, 0, 0), other, one)

    def test_no_evidence_is_accepted_for_a_greater_meet(self):
        one, other = (0, 0, 1), (chain("ptr", 29, INT), 0, 1)
        long = chain("ptr", 29, INT)
        rows = ((0, long, ("given", 0)), (0, 2, ("given", 1)), (1, 3, ("given", 2)), (2, long, ("chain", (1, 0))))
        for solved in ((0, 2, 3), (1, 3, 2), (0, 3, 2), (3, 0, 2)):
            self.assertIs(accepts_meet(TYPES, (0, 0, 0), one, other, ("meet", (long, long, 0), rows, solved)), False)
        for ring in ((), (0,), (3,), (0, 3)):
            self.assertIs(accepts_meet(TYPES, (0, 0, 0), one, other, ("apart", rows, ring)), False)
        small = ((0, long, ("given", 0)), (0, 2, ("given", 1)), (2, long, ("chain", (1, 0))))
        self.assertIs(accepts_meet(TYPES, (0, 0), one[:2], (long, 0), ("meet", (long, long), (
            (0, long, ("given", 0)), (0, 1, ("given", 1)), (1, long, ("chain", (1, 0)))), (0, 2))), True)
        self.assertIs(accepts_meet(TYPES, (0, 0, 0), one, other, ("meet", (long, long), small, (0, 2))), False)

    def test_a_meet_of_two_to_the_power_of_many_places(self):
        """All of it must not be built."""
        many = 9
        left = right = INT
        for variable in range(many):
            left = pair(variable + 1, left)
            right = pair(pair(variable, variable), right)
        # Both together say that variable i + 1 is a pair of i and i, if the variables are the same ones.
        spine = spine_of(range(many + 1))
        one, other = (left, spine), (right, spine)
        self.assertIs(is_case(TYPES, (0, 0), one) and is_case(TYPES, (0, 0), other), True)
        too_large(self, "terms", meet_of, TYPES, (0, 0), one, other)
        too_large(self, "terms", meet_evidence, TYPES, (0, 0), one, other)


def spine_of(variables):
    spine = INT
    for variable in variables:
        spine = pair(variable, spine)
    return spine


class Point35(unittest.TestCase):
    def test_wrong_arguments(self):
        calls = (meet_of, meet_evidence, lambda s, k, one, other: accepts_meet(s, k, one, other, None))
        wrong = [*NOTHINGS, *deep_things(), [0, 0], (0,), (0, 0, 0), (0, True), (0, ("#", 0)), (0, -1), (0, None),
                 (chain("ptr", 59, 0), 0), (0, ptr(["int"]))]
        for function in calls:
            for signature in (*NOTHINGS, *deep_things(), [TYPES[0]]):
                bad(self, "signature", function, signature, None, None, None)
            for kinds in (*NOTHINGS, *deep_things(), [0], (True,), (1,), (0,) * 7):
                bad(self, "kinds", function, TYPES, kinds, None, None)
            for case in wrong:
                bad(self, "one", function, TYPES, (0, 0), case, None)
                bad(self, "other", function, TYPES, (0, 0), (0, 0), case)
            bad(self, "one", function, NUMBERS, (0, 1), (0, 0), (0, 0))
            bad(self, "other", function, NUMBERS, (0, 1), (0, 1), (0, 0))
        for many in range(1, 7):
            self.assertEqual(meet_of(TYPES, (0,) * many, (0,) * many, tuple(range(many))), (0,) * many)

    def test_cases_of_60_and_61_places(self):
        long = chain("ptr", 59, 0)
        self.assertEqual(meet_of(TYPES, (0,), (long,), (0,)), (long,))
        bad(self, "one", meet_of, TYPES, (0,), (ptr(long),), (0,))
        bad(self, "other", meet_of, TYPES, (0,), (0,), (ptr(long),))
        told = meet_evidence(TYPES, (0,), (long,), (chain("ptr", 58, 5),))
        self.assertIs(accepts_meet(TYPES, (0,), (long,), (chain("ptr", 58, 5),), told), True)
        told = meet_evidence(TYPES, (0,), (long,), (chain("ptr", 59, INT),))
        self.assertEqual(told[1], (chain("ptr", 59, INT),))
        self.assertIs(accepts_meet(TYPES, (0,), (long,), (chain("ptr", 59, INT),), told), True)


class Point36(unittest.TestCase):
    def test_example(self):
        self.assertEqual(meet_of(TYPES, (0, 0), (ptr(0), 1), (0, ptr(1))), (ptr(0), ptr(1)))
        self.assertIsNone(meet_of(TYPES, (0, 0), (0, 0), (0, ptr(0))))
        self.assertEqual(meet_evidence(TYPES, (0, 0), (0, 0), (0, ptr(0)))[0], "apart")


if __name__ == "__main__":
    unittest.main()
