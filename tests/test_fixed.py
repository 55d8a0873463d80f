"""Points 45 to 47: numbers that are fixed for a case."""

import random
import unittest

from closestfit.choice import accepts_fixed, choice_of, fixed_evidence, is_fixed
from closestfit.covers import cover_evidence
from closestfit.errors import TooLarge
from closestfit.meets import meet_evidence, meet_of
from closestfit.patterns import is_below, matches
from tests import plain_cases
from tests.makers import covering_table, much_changed, odd_case, some_case, some_kinds, some_table, values_of
from tests.samples import NOTHINGS, NUMBERS, ONE, TYPES, bad, chain, deep_things, some_signatures, too_large
from tests.test_covers import heavy

INT = ("int",)
ONLY = ("one",)
BOTH = (0, 0)


def ptr(term):
    return ("ptr", term)


class Point45(unittest.TestCase):
    def test_fixed_numbers(self):
        table = ((0, 1), (ptr(0), 1), (0, ptr(1)))
        self.assertIs(is_fixed(TYPES, BOTH, table, (INT, 0), 0), False)
        self.assertIs(is_fixed(TYPES, BOTH, table, (INT, INT), 0), True)
        self.assertIs(is_fixed(TYPES, BOTH, table, (ptr(0), INT), 1), True)
        self.assertIs(is_fixed(TYPES, BOTH, table, (ptr(0), 1), 1), False)
        self.assertIs(is_fixed(TYPES, BOTH, table, (ptr(0), INT), 0), False)
        self.assertIs(is_fixed(TYPES, BOTH, table, (INT, ptr(7)), 2), True)
        self.assertIs(is_fixed(TYPES, BOTH, table, (INT, INT), 2), False)

    def test_the_example_of_point_48(self):
        self.assertIs(is_below(ONE, (0,), (0,), (ONLY,)), False)
        self.assertIs(is_fixed(ONE, (0,), ((ONLY,),), (0,), 0), True)
        told = fixed_evidence(ONE, (0,), ((ONLY,),), (0,), 0)
        self.assertIs(accepts_fixed(ONE, (0,), ((ONLY,),), (0,), 0, told), True)
        self.assertEqual(told[0], "fixed")

    def test_fixed_if_it_matches_all_and_the_case_meets_none_that_it_is_not_below(self):
        dice = random.Random(45)
        found = {True: 0, False: 0}
        for number, signature in enumerate(some_signatures(250, 81)):
            kinds = some_kinds(signature, dice, 2)
            table = some_table(signature, kinds, dice, dice.randint(1, 6)) if number % 2 else \
                covering_table(signature, kinds, dice, dice.randint(0, 4))
            for case in (odd_case(signature, kinds, dice, 4), some_case(signature, kinds, dice, 3), *table[:2]):
                for number in range(len(table)):
                    try:
                        fixed = is_fixed(signature, kinds, table, case, number)
                        right = cover_evidence(signature, kinds, case, table, (number,))[0] == "covered" and all(
                            meet_of(signature, kinds, case, other) is None for other in table
                            if not is_below(signature, kinds, table[number], other))
                    except TooLarge:
                        continue
                    self.assertIs(fixed, right)
                    found[fixed] += 1
                    values = values_of(signature, kinds, case, dice)
                    if fixed:
                        self.assertEqual(choice_of(signature, kinds, table, values), number)
        self.assertGreater(min(found.values()), 100)

    def test_none_at_all_values_if_the_case_meets_none(self):
        dice = random.Random(46)
        for signature in some_signatures(150, 82):
            kinds = some_kinds(signature, dice, 2)
            table = some_table(signature, kinds, dice, dice.randint(0, 4))
            case = odd_case(signature, kinds, dice, 4)
            meets = [meet_of(signature, kinds, case, pattern) for pattern in table]
            if all(meet is None for meet in meets):
                self.assertEqual(choice_of(signature, kinds, table, values_of(signature, kinds, case, dice)), "none")
            for meet in meets:
                if meet is not None:
                    values = values_of(signature, kinds, meet, dice)
                    self.assertNotEqual(choice_of(signature, kinds, table, values), "none")


class Point46(unittest.TestCase):
    def judge(self, table, case, number, value, right, signature=TYPES, kinds=BOTH):
        self.assertIs(accepts_fixed(signature, kinds, table, case, number, value), right)
        self.assertIs(plain_cases.accepts_fixed(signature, kinds, table, case, number, value), right)

    def test_evidence_that_is_written_by_hand(self):
        table = ((0, 1), (ptr(0), 1), (0, ptr(1)))
        clash = (INT, ptr(0), ("given", 0)), (INT, ptr(0), ("given", 1))
        rows = ((1, clash[:1], ()), (2, ((INT, ptr(1), ("given", 1)),), ()))
        right = ("fixed", ("by", 0), rows)
        self.judge(table, (INT, INT), 0, right, True)
        for value in (("fixed", ("by", 0), rows[:1]), ("fixed", ("by", 0), rows[::-1]), ("fixed", ("by", 0), (*rows, rows[0])),
                      ("fixed", ("by", 0), list(rows)), ["fixed", ("by", 0), rows], ("fixed", ("by", 1), rows),
                      ("fixed", ("by", False), rows), ("fixed", ("by", 0), ()), ("fixed", ("by", 0)), ("fixed", ("by", 0), rows, 0),
                      ("free", ("by", 0), rows), ("Fixed", ("by", 0), rows), ("fixed", rows, ("by", 0)),
                      ("fixed", ("by", 0), ((True, *rows[0][1:]), rows[1])), ("fixed", ("by", 0), (list(rows[0]), rows[1])),
                      ("fixed", ("by", 0), ((1, list(rows[0][1]), ()), rows[1])), ("fixed", ("by", 0), ((1, rows[0][1]), rows[1])),
                      ("fixed", ("by", 0), ((1, (), ()), rows[1])), ("fixed", ("by", 0), ((1, rows[0][1], (0,)), rows[1])),
                      ("fixed", ("by", 0), ((1, rows[0][1], []), rows[1])), ("fixed", ("by", 0), ((2, *rows[0][1:]), rows[1])),
                      ("fixed", ("by", 0), ((1, ((INT, ptr(False), ("given", 0)),), ()), rows[1])),
                      ("fixed", ("by", 0), ((0, *rows[0][1:]), *rows)), ("fixed", None, rows), ("fixed", ("by", 0), None)):
            self.judge(table, (INT, INT), 0, value, False)
        self.judge(table, (ptr(0), INT), 0, right, False)

    def test_free_values(self):
        table = ((0, 1), (ptr(0), 1), (0, ptr(1)))
        for values, right in (((ptr(INT), INT), False), ((ptr(INT), ptr(INT)), True), ((ptr(INT), ("#", 0)), False),
                              ((INT, INT), False), ((INT, ptr(INT)), False), ((ptr(INT), 0), False), ([ptr(INT), ptr(INT)], False),
                              ((ptr(INT),), False), ((ptr(INT), ptr(("#", True))), False), (None, False)):
            self.judge(table, (ptr(3), 4), 1, ("free", values), right)
            self.judge(table, (ptr(3), 4), 1, ("fixed", values), False)
            self.judge(table, (ptr(3), 4), 1, ("free", values, ()), False)
        for many, right in ((399, True), (400, False)):
            free = ("free", (chain("ptr", many, INT), ptr(INT)))
            self.assertIs(accepts_fixed(TYPES, BOTH, table, (ptr(3), 4), 1, free), right)
        self.judge(table, (ptr(3), 4), 0, ("free", (ptr(INT), INT)), True)
        self.judge(table, (ptr(3), 4), 2, ("free", (ptr(INT), INT)), True)
        self.judge(((ptr(0), 1),), (0, 1), 0, ("free", (INT, INT)), True)

    def test_rings_in_rows(self):
        """The case is the one, and the pattern is raised."""
        table = ((0, 1), (0, ptr(0)))
        rows = ((5, 6, ("given", 0)), (5, ptr(6), ("given", 1)), (6, ptr(6), ("chain", (0, 1))))
        self.judge(table, (5, 5), 0, ("fixed", ("by", 0), ((1, rows, (2,)),)), True)
        self.judge(table, (5, 5), 0, ("fixed", ("by", 0), ((1, rows, ()),)), False)
        self.judge(table, (4, 4), 0, ("fixed", ("by", 0), ((1, rows, (2,)),)), False)

    def test_other_trees(self):
        table = ((0, 1), (("zero",), ("box", 0)))
        case = (("next", 0), 1)
        apart = meet_evidence(NUMBERS, (0, 1), case, table[1])
        rows = ((1, *apart[1:]),)
        for tree, right in ((("by", 0), True), (("split", 0, (("by", 0), ("by", 0))), True), (("split", 1, (("by", 0),)), False),
                            (("split", 0, (("by", 0), ("by", 1))), False), (("by", 1), False)):
            self.judge(table, case, 0, ("fixed", tree, rows), right, NUMBERS, (0, 1))

    def test_301_leaves(self):
        for many, right in ((299, True), (300, False)):
            tree = ("by", 0)
            for number in range(many, 0, -1):
                tree = ("split", number - 1, (("by", 0), tree))
            self.assertIs(accepts_fixed(NUMBERS, (0,), ((0,),), (0,), 0, ("fixed", tree, ())), right)

    def test_whatever_is_judged(self):
        table = ((0, 1), (ptr(0), 1))
        for case in ((INT, 0), (ptr(0), 1)):
            for value in (*NOTHINGS, *deep_things()):
                for evidence in (value, (value,), ("fixed", value, value), ("fixed", ("by", 0), value), ("free", value),
                                 ("free", (value, value)), ("fixed", ("by", 0), (value,)), ("free", (ptr(value), INT)),
                                 ("fixed", ("by", value), ((1, ((INT, ptr(1), ("given", 0)),), value),)),
                                 ("fixed", ("by", 0), ((value, ((INT, ptr(1), ("given", 0)),), (0,)),)),
                                 ("fixed", ("by", 0), ((1, value, ()),)), ("fixed", ("by", 0), ((1, (value,), value),)),
                                 ("fixed", value, ((1, ((INT, ptr(1), ("given", 0)),), ()),))):
                    right = (case[0] == INT and evidence == ("fixed", ("by", 0), ((1, ((INT, ptr(1), ("given", 0)),), ()),))
                             and not plain_cases.has_true_or_false(evidence))
                    self.assertIs(accepts_fixed(TYPES, BOTH, table, case, 0, evidence), right)

    def test_told_evidence_in_all_shapes(self):
        dice = random.Random(47)
        words = {"fixed": 0, "free": 0}
        for number, signature in enumerate(some_signatures(200, 83)):
            kinds = some_kinds(signature, dice, 2)
            table = some_table(signature, kinds, dice, dice.randint(1, 6)) if number % 2 else \
                covering_table(signature, kinds, dice, dice.randint(0, 4))
            for case in (odd_case(signature, kinds, dice, 4), *table[:2]):
                for number in range(len(table)):
                    try:
                        told = fixed_evidence(signature, kinds, table, case, number)
                    except TooLarge:
                        continue
                    words[told[0]] += 1
                    self.assertEqual(told[0] == "fixed", is_fixed(signature, kinds, table, case, number))
                    self.assertIs(accepts_fixed(signature, kinds, table, case, number, told), True)
                    self.assertIs(plain_cases.accepts_fixed(signature, kinds, table, case, number, told), True)
                    for value in much_changed(told, dice, 6):
                        accepted = accepts_fixed(signature, kinds, table, case, number, value)
                        self.assertIs(accepted, plain_cases.accepts_fixed(signature, kinds, table, case, number, value))
                        self.assertTrue(not accepted or value[0] == told[0])
        self.assertGreater(min(words.values()), 100)


class Point47(unittest.TestCase):
    def test_wrong_arguments(self):
        table = ((0, 1), (ptr(0), 1))
        calls = (is_fixed, fixed_evidence, lambda s, k, t, c, n: accepts_fixed(s, k, t, c, n, None))
        for function in calls:
            for signature in (*NOTHINGS, *deep_things(), [TYPES[0]]):
                bad(self, "signature", function, signature, None, None, None, None)
            for kinds in (*NOTHINGS, *deep_things(), [0], (True,), (-1,), (1,), (0,) * 7):
                bad(self, "kinds", function, TYPES, kinds, None, None, None)
            for wrong in (*[value for value in NOTHINGS if value != ()], *deep_things(), [(0, 1)], ((0, 1), (0, 1)), ((1, 0),)):
                bad(self, "table", function, TYPES, BOTH, wrong, None, None)
            for case in (*NOTHINGS, *deep_things(), [0, 1], (0,), (0, True), (0, ("#", 0)), (0, -1), (chain("ptr", 59, 0), 1)):
                bad(self, "case", function, TYPES, BOTH, table, case, None)
            for number in (None, True, False, "0", (0,), [0], -1, 2, 10 ** 20, *deep_things()):
                bad(self, "number", function, TYPES, BOTH, table, (0, 1), number)
            bad(self, "number", function, TYPES, BOTH, (), (0, 1), 0)

    def test_the_first_meet_has_more_than_60_places(self):
        kinds = (0, 0, 0)
        table = ((0, 1, 2), (0, 0, 1), (ptr(0), 1, INT))
        case = (chain("ptr", 29, INT), 5, 6)
        too_large(self, "terms", fixed_evidence, TYPES, kinds, table, case, 0)
        self.assertIs(is_fixed(TYPES, kinds, table, case, 0), False)
        small = (chain("ptr", 28, INT), 5, 6)
        self.assertEqual(fixed_evidence(TYPES, kinds, table, small, 0)[0], "free")
        # A meet that comes before, and is small, is enough; one that is not there is passed by.
        other = (table[0], table[2], table[1])
        self.assertEqual(fixed_evidence(TYPES, kinds, other, case, 0)[0], "free")
        off = (table[0], (INT, 0, 1), table[1])
        too_large(self, "terms", fixed_evidence, TYPES, kinds, off, case, 0)

    def test_the_tree_comes_before_the_meets(self):
        table = ((ptr(0), 1, 2), (0, 0, 1))
        case = (5, chain("ptr", 29, INT), 6)
        told = fixed_evidence(TYPES, (0, 0, 0), table, case, 0)
        self.assertEqual(told[0], "free")
        self.assertIs(accepts_fixed(TYPES, (0, 0, 0), table, case, 0, told), True)

    def test_left_values_of_400_and_401_places(self):
        signature, kinds, case, table = heavy(3)
        told = fixed_evidence(signature, kinds, table, case, 0)
        self.assertEqual(told[0], "free")
        self.assertIs(accepts_fixed(signature, kinds, table, case, 0, told), True)
        signature, kinds, case, table = heavy(4)
        too_large(self, "value", fixed_evidence, signature, kinds, table, case, 0)
        self.assertIs(is_fixed(signature, kinds, table, case, 0), False)

    def test_free_values_of_great_cases(self):
        """The case has many variables whose least values have seven places."""
        signature = (("closed", (("aa", (1, 1)), ("ab", (0, 0)))), ("closed", (("bb", (2, 2)),)), ("closed", (("cc", ()),)))
        case = 0
        for number in range(1, 30):
            case = ("ab", case, number)
        table = ((0,), (("ab", 0, 1),))
        told = fixed_evidence(signature, (0,), table, (case,), 0)
        self.assertEqual(told[0], "free")
        self.assertIs(accepts_fixed(signature, (0,), table, (case,), 0, told), True)

    def test_free_values_match_the_case(self):
        table = ((0, 1), (ptr(0), 1))
        told = fixed_evidence(TYPES, BOTH, table, (7, 3), 0)
        self.assertIs(matches(TYPES, BOTH, (ptr(0), 1), told[1]), True)


if __name__ == "__main__":
    unittest.main()
