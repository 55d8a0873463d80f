"""Points 23 to 27 and 35: cases, patterns, instances."""

import random
import unittest

from closestfit.patterns import accepts_instance, instance_evidence, is_below, is_case, is_pattern, matches
from tests import plain, plain_cases
from tests.makers import changed, much_changed, odd_case, some_case, some_kinds, values_of
from tests.samples import MIXED, NOTHINGS, NUMBERS, ONE, TYPES, bad, chain, deep_things, some_signatures

INT = ("int",)


def ptr(term):
    return ("ptr", term)


def pair(one, other):
    return ("pair", one, other)


def stranger(number):
    return ("#", number)


def row_of(many, last=INT):
    """A term of 2 * many + 1 places."""
    term = last
    for variable in range(many):
        term = pair(many - 1 - variable, term)
    return term


class Point23(unittest.TestCase):
    def test_cases(self):
        for value in ((0, 0), (3, 1), (INT, 0), (ptr(pair(0, 1)), pair(1, 0)), (10 ** 30, ptr(10 ** 30)), (INT, INT)):
            self.assertIs(is_case(TYPES, (0, 0), value), True)
        self.assertIs(is_case(NUMBERS, (0, 1), (("next", 0), ("box", 0))), True)

    def test_no_cases(self):
        for value in ((0,), (0, 0, 0), [0, 0], (0, -1), (0, True), (False, 0), (0, None), (0, "0"), (0, ("ptr",)),
                      (0, ("ptr", 0, 0)), (0, ["ptr", 0]), (0, stranger(0)), (0, ptr(stranger(0))), (0, ("zero",)),
                      (0, ("int", 0)), (0, (0,)), (0, ()), (0, pair(0, True)), (0, ptr(-1)), 0, (0, ptr([]))):
            self.assertIs(is_case(TYPES, (0, 0), value), False)
            self.assertIs(is_pattern(TYPES, (0, 0), value), False)

    def test_a_variable_is_of_one_kind(self):
        self.assertIs(is_case(NUMBERS, (0, 1), (0, 0)), False)
        self.assertIs(is_case(NUMBERS, (0, 1), (0, 1)), True)
        self.assertIs(is_case(NUMBERS, (1, 1), (0, ("box", 0))), False)
        self.assertIs(is_case(NUMBERS, (1, 1), (0, ("box", 1))), True)
        self.assertIs(is_case(NUMBERS, (1, 0, 1), (("box", ("next", 5)), 5, 6)), True)
        self.assertIs(is_case(MIXED, (0, 2), (("leaf", ("flag", 1)), 1)), True)
        self.assertIs(is_case(MIXED, (0, 2), (("leaf", 1), 1)), False)

    def test_terms_of_the_right_kind(self):
        self.assertIs(is_case(NUMBERS, (0,), (("box", 0),)), False)
        self.assertIs(is_case(NUMBERS, (1,), (("next", 0),)), False)
        self.assertIs(is_case(NUMBERS, (1,), (("box", ("box", 0)),)), False)

    def test_60_and_61_places(self):
        self.assertIs(is_case(TYPES, (0,), (chain("ptr", 59, 0),)), True)
        self.assertIs(is_case(TYPES, (0,), (chain("ptr", 60, 0),)), False)
        self.assertIs(is_case(TYPES, (0, 0), (chain("ptr", 58, 0), INT)), True)
        self.assertIs(is_case(TYPES, (0, 0), (chain("ptr", 59, 0), INT)), False)
        self.assertIs(is_case(TYPES, (0, 0), (row_of(29), 7)), True)
        self.assertIs(is_case(TYPES, (0, 0), (row_of(29), ptr(7))), False)
        self.assertIs(is_case(TYPES, (0,) * 6, (chain("ptr", 9, 0),) * 6), True)
        self.assertIs(is_case(TYPES, (0,) * 6, (*(chain("ptr", 9, 0),) * 5, chain("ptr", 10, 0))), False)

    def test_numbered_patterns(self):
        for value in ((0, 0), (0, 1), (ptr(0), pair(1, 0)), (pair(0, 1), 2), (INT, 0), (INT, INT)):
            self.assertIs(is_pattern(TYPES, (0, 0), value), True)
        for value in ((1, 0), (1, 1), (0, 2), (pair(1, 0), 2), (INT, 1), (pair(0, 2), 1), (pair(0, 0), 2), (pair(0, 1), 3),
                      (pair(0, pair(0, 0)), 3), (pair(0, pair(0, 1)), 3)):
            self.assertIs(is_pattern(TYPES, (0, 0), value), False)
            self.assertIs(is_case(TYPES, (0, 0), value), True)

    def test_16_and_17_places(self):
        self.assertIs(is_pattern(TYPES, (0,), (chain("ptr", 15, 0),)), True)
        self.assertIs(is_pattern(TYPES, (0,), (chain("ptr", 16, 0),)), False)
        self.assertIs(is_pattern(TYPES, (0, 0), (chain("ptr", 14, 0), 0)), True)
        self.assertIs(is_pattern(TYPES, (0, 0), (chain("ptr", 15, 0), 0)), False)
        self.assertIs(is_pattern(TYPES, (0, 0), (row_of(7), 7)), True)
        self.assertIs(is_pattern(TYPES, (0, 0), (row_of(7), ptr(7))), False)

    def test_one_to_six_kinds(self):
        for many in range(1, 7):
            self.assertIs(is_case(TYPES, (0,) * many, tuple(range(many))), True)
            self.assertIs(is_pattern(TYPES, (0,) * many, tuple(range(many))), True)
            self.assertIs(matches(TYPES, (0,) * many, (0,) * many, (INT,) * many), True)
        for many in (0, 7, 8):
            for function in (is_case, is_pattern):
                bad(self, "kinds", function, TYPES, (0,) * many, tuple(range(many)))
            bad(self, "kinds", matches, TYPES, (0,) * many, (0,) * many, (INT,) * many)

    def test_all_shapes(self):
        dice = random.Random(23)
        for signature in some_signatures(150, 31):
            kinds = some_kinds(signature, dice)
            case = odd_case(signature, kinds, dice)
            numbered = plain_cases.numbered(case)
            self.assertIs(is_case(signature, kinds, case), plain_cases.size(case) <= 60)
            self.assertIs(is_pattern(signature, kinds, case), plain_cases.size(case) <= 16 and case == numbered)
            self.assertIs(is_pattern(signature, kinds, numbered), plain_cases.size(case) <= 16)
            for other in (changed(case, dice), changed(numbered, dice)):
                if plain_cases.has_true_or_false(other) or not isinstance(other, tuple):
                    self.assertIs(is_case(signature, kinds, other), False)

    def test_whatever_is_judged(self):
        for value in (*NOTHINGS, *deep_things()):
            for kinds in ((0,), (0, 0)):
                for function in (is_case, is_pattern):
                    self.assertIs(function(TYPES, kinds, value), False)
                    if value not in (0, 1):
                        self.assertIs(function(TYPES, kinds, (value,) * len(kinds)), False)
                        self.assertIs(function(TYPES, kinds, (ptr(value),) * len(kinds)), False)


class Point35(unittest.TestCase):
    """Wrong arguments."""

    calls = (lambda s, k: is_case(s, k, None), lambda s, k: is_pattern(s, k, None),
             lambda s, k: matches(s, k, None, None), lambda s, k: instance_evidence(s, k, None, None),
             lambda s, k: accepts_instance(s, k, None, None, None), lambda s, k: is_below(s, k, None, None))

    def test_signature_and_kinds(self):
        for function in self.calls:
            for signature in (*NOTHINGS, *deep_things(), [TYPES[0]], (("closed", ()),)):
                bad(self, "signature", function, signature, None)
            for kinds in (*NOTHINGS, *deep_things(), [0], (True,), (False,), (-1,), (2,), ("0",), (0, None), (0,) * 7):
                bad(self, "kinds", function, NUMBERS, kinds)

    def test_cases(self):
        wrong = [*NOTHINGS, *deep_things(), [0, 0], (0,), (0, 0, 0), (0, True), (0, stranger(0)), (0, -1),
                 (chain("ptr", 59, 0), 0), (0, ptr(["int"]))]
        for case in wrong:
            bad(self, "case", matches, TYPES, (0, 0), case, None)
            bad(self, "case", instance_evidence, TYPES, (0, 0), case, None)
            bad(self, "case", accepts_instance, TYPES, (0, 0), case, None, None)
            bad(self, "one", is_below, TYPES, (0, 0), case, None)
            bad(self, "other", is_below, TYPES, (0, 0), (0, 0), case)
        bad(self, "case", matches, NUMBERS, (0, 1), (0, 0), (("zero",), stranger(0)))

    def test_values(self):
        wrong = [*NOTHINGS, *deep_things(), [INT, INT], (INT,), (INT, INT, INT), (INT, 0), (INT, ptr(0)), (INT, ["int"]),
                 (INT, stranger(True)), (INT, stranger(-1)), (INT, chain("ptr", 400, INT)), (chain("ptr", 400, INT), INT)]
        for values in wrong:
            bad(self, "values", matches, TYPES, (0, 0), (0, 0), values)
        self.assertIs(matches(TYPES, (0, 0), (0, 0), (chain("ptr", 399, INT),) * 2), True)

    def test_terms(self):
        wrong = [*NOTHINGS, *deep_things(), [INT, INT], [0, 0], (INT,), (0,), (0, 0, 0), (0, stranger(0)),
                 (ptr(0), ptr(stranger(0))), (0, True), (0, -1), (INT, stranger(-1)), (chain("ptr", 59, 0), 0),
                 (chain("ptr", 400, INT), INT), (0, ["int"])]
        for terms in wrong:
            bad(self, "terms", instance_evidence, TYPES, (0, 0), (0, 0), terms)
            bad(self, "terms", accepts_instance, TYPES, (0, 0), (0, 0), terms, None)
        bad(self, "terms", instance_evidence, NUMBERS, (0, 1), (0, 1), (0, 0))
        self.assertEqual(instance_evidence(TYPES, (0, 0), (0, 1), (chain("ptr", 399, INT),) * 2),
                         ("is", (chain("ptr", 399, INT),) * 2))
        self.assertEqual(instance_evidence(TYPES, (0, 0), (0, 1), (chain("ptr", 58, 3), 3)),
                         ("is", (chain("ptr", 58, 3), 3)))


class Point24(unittest.TestCase):
    def test_matches(self):
        self.assertIs(matches(TYPES, (0, 0), (0, 0), (ptr(INT), ptr(INT))), True)
        self.assertIs(matches(TYPES, (0, 0), (0, 0), (ptr(INT), INT)), False)
        self.assertIs(matches(TYPES, (0, 0), (3, 3), (stranger(1), stranger(1))), True)
        self.assertIs(matches(TYPES, (0, 0), (3, 3), (stranger(1), stranger(2))), False)
        self.assertIs(matches(TYPES, (0, 0), (ptr(0), 1), (stranger(1), stranger(1))), False)
        self.assertIs(matches(TYPES, (0,), (pair(0, ptr(0)),), (pair(INT, ptr(INT)),)), True)
        self.assertIs(matches(TYPES, (0,), (pair(0, ptr(0)),), (pair(INT, ptr(ptr(INT))),)), False)
        self.assertIs(matches(TYPES, (0,), (INT,), (INT,)), True)

    def test_a_variable_twice_in_deep_values(self):
        one, other = chain("ptr", 399, INT), chain("ptr", 399, stranger(0))
        self.assertIs(matches(TYPES, (0, 0), (0, 0), (one, one)), True)
        self.assertIs(matches(TYPES, (0, 0), (0, 0), (one, other)), False)

    def test_all_shapes(self):
        dice = random.Random(24)
        for signature in some_signatures(150, 32):
            kinds = some_kinds(signature, dice)
            case = odd_case(signature, kinds, dice)
            for values in (values_of(signature, kinds, case, dice), plain.some_values(signature, kinds, 2, dice)):
                self.assertIs(matches(signature, kinds, case, values), plain_cases.match(case, values) is not None)


class Point25(unittest.TestCase):
    def test_what_is_put_in_the_order_of_the_variables(self):
        self.assertEqual(instance_evidence(TYPES, (0, 0), (7, pair(2, 5)), (INT, pair(ptr(INT), stranger(4)))),
                         ("is", (ptr(INT), stranger(4), INT)))
        self.assertEqual(instance_evidence(TYPES, (0,), (INT,), (INT,)), ("is", ()))
        self.assertEqual(instance_evidence(TYPES, (0, 0), (0, 1), (ptr(1), 0)), ("is", (ptr(1), 0)))

    def test_the_first_clash(self):
        self.assertEqual(instance_evidence(TYPES, (0, 0), (pair(ptr(0), INT), INT), (pair(INT, ptr(INT)), stranger(0))),
                         ("clash", (0, 0)))
        self.assertEqual(instance_evidence(TYPES, (0, 0), (pair(ptr(0), INT), INT), (pair(ptr(INT), INT), stranger(0))),
                         ("clash", (1,)))
        self.assertEqual(instance_evidence(TYPES, (0,), (ptr(ptr(0)),), (INT,)), ("clash", (0,)))
        self.assertEqual(instance_evidence(TYPES, (0,), (ptr(0),), (0,)), ("clash", (0,)))
        self.assertEqual(instance_evidence(TYPES, (0,), (pair(0, ptr(INT)),), (pair(ptr(INT), ptr(stranger(9))),)),
                         ("clash", (0, 1, 0)))

    def test_a_clash_comes_before_unlike_places(self):
        self.assertEqual(instance_evidence(TYPES, (0, 0, 0), (0, 0, INT), (INT, ptr(INT), ptr(INT))), ("clash", (2,)))

    def test_the_first_unlike_places(self):
        self.assertEqual(instance_evidence(TYPES, (0,) * 4, (0, 1, 1, 0), (INT, INT, ptr(INT), stranger(0))),
                         ("unlike", (0,), (3,)))
        self.assertEqual(instance_evidence(TYPES, (0,) * 4, (0, 1, 1, 0), (INT, INT, ptr(INT), INT)),
                         ("unlike", (1,), (2,)))
        self.assertEqual(instance_evidence(TYPES, (0,) * 4, (0, 0, 0, 0), (INT, INT, ptr(INT), stranger(0))),
                         ("unlike", (0,), (2,)))
        self.assertEqual(instance_evidence(TYPES, (0, 0), (pair(0, ptr(1)), pair(1, 0)), (pair(2, ptr(3)), pair(3, 4))),
                         ("unlike", (0, 0), (1, 1)))

    def test_evidence_of_somebody_else(self):
        """Right, and not the told one."""
        case, terms = (pair(ptr(0), INT), 0), (pair(INT, ptr(INT)), stranger(0))
        self.assertIs(accepts_instance(TYPES, (0, 0), case, terms, ("clash", (0, 0))), True)
        self.assertIs(accepts_instance(TYPES, (0, 0), case, terms, ("clash", (0, 1))), True)
        case, terms = (0, 0, 0, INT), (INT, ptr(INT), stranger(1), ptr(INT))
        for place, other in ((0, 1), (0, 2), (1, 2)):
            self.assertIs(accepts_instance(TYPES, (0,) * 4, case, terms, ("unlike", (place,), (other,))), True)
            self.assertIs(accepts_instance(TYPES, (0,) * 4, case, terms, ("unlike", (other,), (place,))), False)
        self.assertIs(accepts_instance(TYPES, (0,) * 4, case, terms, ("unlike", (0,), (0,))), False)
        self.assertIs(accepts_instance(TYPES, (0,) * 4, case, terms, ("unlike", (0,), (3,))), False)

    def test_a_place_must_be_in_both(self):
        self.assertIs(accepts_instance(TYPES, (0,), (ptr(ptr(0)),), (INT,), ("clash", (0, 0))), False)
        self.assertIs(accepts_instance(TYPES, (0,), (ptr(ptr(0)),), (INT,), ("clash", (0,))), True)
        self.assertIs(accepts_instance(TYPES, (0,), (ptr(0),), (INT,), ("clash", (0, 0))), False)
        self.assertIs(accepts_instance(TYPES, (0,), (0,), (INT,), ("clash", (0,))), False)
        self.assertIs(accepts_instance(TYPES, (0,), (pair(0, 0),), (INT,), ("unlike", (0, 0), (0, 1))), False)

    def test_wrong_evidence(self):
        case, terms = (pair(0, 1), 0), (pair(INT, ptr(INT)), INT)
        right = ("is", (INT, ptr(INT)))
        self.assertIs(accepts_instance(TYPES, (0, 0), case, terms, right), True)
        for value in (("is", (ptr(INT), INT)), ("is", [INT, ptr(INT)]), ["is", (INT, ptr(INT))], ("is", (INT,)),
                      ("is", (INT, ptr(INT), INT)), ("is", (INT, ["ptr", INT])), ("is", (INT, ptr(INT)), ()), ("is",),
                      ("Is", (INT, ptr(INT))), ("clash", (0,)), ("clash", (0, 0)), ("unlike", (0, 0), (1,)),
                      ("unlike", (0, 0), (0, 1)), ("is", None), (), None, ("is", (INT, 0)), (right,)):
            self.assertIs(accepts_instance(TYPES, (0, 0), case, terms, value), False)

    def test_integers_are_never_true_or_false(self):
        case, terms = (pair(INT, ptr(0)), 1), (pair(INT, INT), 1)
        self.assertIs(accepts_instance(TYPES, (0, 0), case, terms, ("clash", (0, 1))), True)
        self.assertIs(accepts_instance(TYPES, (0, 0), case, terms, ("clash", (0, True))), False)
        self.assertIs(accepts_instance(TYPES, (0, 0), case, terms, ("clash", (False, 1))), False)
        self.assertIs(accepts_instance(TYPES, (0,), (0,), (1,), ("is", (1,))), True)
        self.assertIs(accepts_instance(TYPES, (0,), (0,), (1,), ("is", (True,))), False)
        self.assertIs(accepts_instance(TYPES, (0,), (0,), (ptr(0),), ("is", (ptr(0),))), True)
        self.assertIs(accepts_instance(TYPES, (0,), (0,), (ptr(0),), ("is", (ptr(False),))), False)
        self.assertIs(accepts_instance(TYPES, (0,), (0,), (stranger(1),), ("is", (stranger(1),))), True)
        self.assertIs(accepts_instance(TYPES, (0,), (0,), (stranger(1),), ("is", (stranger(True),))), False)
        self.assertIs(accepts_instance(TYPES, (0, 0), (0, 0), (0, 1), ("unlike", (0,), (1,))), True)
        self.assertIs(accepts_instance(TYPES, (0, 0), (0, 0), (0, 1), ("unlike", (False,), (True,))), False)
        self.assertIs(accepts_instance(TYPES, (0, 0), (0, 0), (0, 1), ("unlike", (0,), (True,))), False)

    def test_wrong_places(self):
        for place in (0, (), [0], (-1,), (2,), (None,), ("0",), ((0,),), None, True, (0, 0, 0), (0, 10 ** 30), (1, 0)):
            self.assertIs(accepts_instance(TYPES, (0, 0), (ptr(0), ptr(0)), (INT, INT), ("clash", place)), False)
            self.assertIs(accepts_instance(TYPES, (0, 0), (0, 0), (INT, ptr(INT)), ("unlike", place, (1,))), False)
            self.assertIs(accepts_instance(TYPES, (0, 0), (0, 0), (INT, ptr(INT)), ("unlike", (0,), place)), False)

    def test_whatever_is_judged(self):
        calls = (((0, 0), (INT, ptr(INT))), ((0, 1), (INT, INT)), ((ptr(0), 1), (INT, INT)))
        for case, terms in calls:
            for value in (*NOTHINGS, *deep_things()):
                for evidence in (value, (value,), ("is", value), ("is", (value, value)), ("is", (INT, value)), ("clash", value),
                                 ("clash", (value,)), ("unlike", value, (1,)), ("unlike", (0,), value),
                                 ("unlike", (value,), (value,)), (value, (0,)), ("is", (ptr(value), INT))):
                    told = accepts_instance(TYPES, (0, 0), case, terms, evidence)
                    right = evidence == ("clash", (0,)) and case[0] != 0 and not isinstance(evidence[1][0], bool)
                    self.assertIs(told, right)

    def test_all_shapes(self):
        dice = random.Random(25)
        for signature in some_signatures(150, 33):
            kinds = some_kinds(signature, dice)
            case = odd_case(signature, kinds, dice, 6)
            for given in (odd_case(signature, kinds, dice, 6), values_of(signature, kinds, case, dice),
                          plain_cases.put(case, {3: 3 * 11, 10: 44}),
                          values_of(signature, kinds, some_case(signature, kinds, dice), dice)):
                if not is_case(signature, kinds, given) and not plain_cases.are_values(signature, kinds, given):
                    continue
                told = instance_evidence(signature, kinds, case, given)
                self.assertEqual(told, plain_cases.told_instance(case, given))
                self.assertIs(accepts_instance(signature, kinds, case, given, told), True)
                places = plain_cases.all_places(case)
                others = [("clash", place) for place in places]
                others += [("unlike", place, other) for place in places for other in places][:200]
                for value in (*others, *much_changed(told, dice, 10)):
                    right = plain_cases.accepts_instance(case, given, value)
                    self.assertIs(accepts_instance(signature, kinds, case, given, value), right)
                    self.assertTrue(not right or (value[0] == "is") == (told[0] == "is"))


class Points26And27(unittest.TestCase):
    def test_is_below(self):
        self.assertIs(is_below(TYPES, (0, 0), (ptr(0), ptr(1)), (ptr(0), 1)), True)
        self.assertIs(is_below(TYPES, (0, 0), (ptr(0), 1), (ptr(0), ptr(1))), False)
        self.assertIs(is_below(TYPES, (0, 0), (0, 0), (0, 1)), True)
        self.assertIs(is_below(TYPES, (0, 0), (0, 1), (0, 0)), False)
        self.assertIs(is_below(TYPES, (0, 0), (5, 3), (0, 1)), True)
        self.assertIs(is_below(TYPES, (0, 0), (0, 1), (5, 3)), True)
        self.assertIs(is_below(TYPES, (0, 0), (ptr(0), 0), (0, 0)), False)
        self.assertIs(is_below(TYPES, (0, 0), (ptr(0), ptr(0)), (0, 0)), True)

    def test_all_shapes(self):
        dice = random.Random(26)
        for signature in some_signatures(200, 34):
            kinds = some_kinds(signature, dice)
            cases = [odd_case(signature, kinds, dice, 4) for _ in range(4)]
            for one in cases:
                self.assertIs(is_below(signature, kinds, one, one), True)
                for other in cases:
                    below = is_below(signature, kinds, one, other)
                    self.assertIs(below, plain_cases.is_below(one, other))
                    alike = below and is_below(signature, kinds, other, one)
                    self.assertEqual(alike, plain_cases.numbered(one) == plain_cases.numbered(other))
                    for third in cases:
                        if below and is_below(signature, kinds, other, third):
                            self.assertIs(is_below(signature, kinds, one, third), True)
                    if below:
                        values = values_of(signature, kinds, one, dice)
                        self.assertIs(matches(signature, kinds, other, values), True)

    def test_different_strangers_for_variables_of_open_kinds(self):
        dice = random.Random(27)
        for _ in range(200):
            one, other = odd_case(TYPES, (0, 0), dice), odd_case(TYPES, (0, 0), dice)
            values = plain_cases.put(one, {variable: stranger(variable) for variable in plain_cases.variables_in(one)})
            self.assertIs(matches(TYPES, (0, 0), other, values), is_below(TYPES, (0, 0), one, other))

    def test_closed_kinds_with_one_value(self):
        self.assertIs(is_below(ONE, (0,), (0,), (("one",),)), False)
        self.assertIs(is_below(ONE, (0,), (("one",),), (0,)), True)
        for case in ((0,), (("one",),)):
            self.assertIs(matches(ONE, (0,), case, (("one",),)), True)


if __name__ == "__main__":
    unittest.main()
