"""Points 10 to 13: signatures, values and finite kinds."""

import unittest

from closestfit.kinds import is_finite, is_signature, is_value
from tests import plain
from tests.samples import (BIG, MIXED, NO_INTEGERS, NOTHINGS, NUMBERS, ONE, TYPES, bad, chain, deep_things,
                           some_signatures)


def closed(*constructors):
    return ("closed", constructors)


def opened(*constructors):
    return ("open", constructors)


class Point10(unittest.TestCase):
    def assert_signature(self, value, right=True):
        self.assertIs(is_signature(value), right)

    def test_samples(self):
        for signature in (NUMBERS, TYPES, ONE, BIG, MIXED):
            self.assert_signature(signature)

    def test_one_to_three_kinds(self):
        kinds = [closed(("aa", ())), opened(("bb", ())), closed(("cc", ())), opened(("dd", ()))]
        for many in range(5):
            self.assert_signature(tuple(kinds[:many]), 1 <= many <= 3)

    def test_no_to_four_constructors(self):
        rows = (("aa", ()), ("bb", ()), ("cc", ()), ("dd", ()), ("ee", ()))
        for many in range(6):
            self.assert_signature((opened(*rows[:many]),), many <= 4)
            self.assert_signature((closed(*rows[:many]),), 1 <= many <= 4)

    def test_names_of_two_to_eight_letters(self):
        for many in range(11):
            self.assert_signature((opened(("a" * many, ())),), 2 <= many <= 8)

    def test_names_have_letters_from_a_to_z_alone(self):
        for name in ("az", "za", "abcdefgh", "opqrstuv", "wxyzabcd"):
            self.assert_signature((opened((name, ())),))
        for name in ("Ab", "aB", "a1", "a_", "a b", " ab", "ab\n", "#a", "a`", "a{", "\u00e9e", "aa\u0430"):
            self.assert_signature((opened((name, ())),), False)
        for name in (None, True, 1, (), ("aa",), ["a", "a"], ["aa"], b"aa", ("a", "a")):
            self.assert_signature((opened((name, ())),), False)

    def test_no_name_twice(self):
        self.assert_signature((opened(("aa", ()), ("aa", ())),), False)
        self.assert_signature((opened(("aa", ())), opened(("aa", ()))), False)
        self.assert_signature((opened(("aa", ())), opened(), opened(("bb", ()), ("aa", (0,)))), False)
        self.assert_signature((opened(("aa", ())), opened(("ab", ()))))

    def test_no_to_two_parts(self):
        for many in range(5):
            self.assert_signature((opened(("aa", (0,) * many)),), many <= 2)

    def test_parts_are_kinds(self):
        for part in (*NO_INTEGERS, -1, 3, 10 ** 30):
            self.assert_signature((opened(("aa", (part,))), opened(), opened()), False)
            self.assert_signature((opened(("aa", (0, part))), opened(), opened()), False)
        for part in range(3):
            self.assert_signature((opened(("aa", (part,))), opened(), opened()))
        for parts in (None, 0, [], [0], "", "0", {}, True):
            self.assert_signature((opened(("aa", parts)),), False)

    def test_how_is_closed_or_open(self):
        for how in ("closed", "open"):
            self.assert_signature(((how, (("aa", ()),)),))
        for how in ("Closed", "", "c", "opened", "closedopen", None, True, 0, ("open",), ["open"], ()):
            self.assert_signature(((how, (("aa", ()),)),), False)

    def test_tuples_and_not_lists_of_the_right_length(self):
        self.assert_signature([opened(("aa", ()))], False)
        self.assert_signature((["open", (("aa", ()),)],), False)
        self.assert_signature((("open", [("aa", ())]),), False)
        self.assert_signature((("open", (["aa", ()],)),), False)
        self.assert_signature((("open", (("aa", []),)),), False)
        self.assert_signature((("open",),), False)
        self.assert_signature((("open", (), ()),), False)
        self.assert_signature((("open", (("aa",),)),), False)
        self.assert_signature((("open", (("aa", (), ()),)),), False)
        self.assert_signature((("open", ((),)),), False)
        self.assert_signature((("open", ("aa", ())),), False)
        self.assert_signature(opened(("aa", ())), False)

    def test_whatever_is_judged(self):
        for value in (*NOTHINGS, *deep_things()):
            self.assert_signature(value, False)
            self.assert_signature((value,), False)
            self.assert_signature((("open", value),), value == ())
            self.assert_signature(((value, ()),), False)
            self.assert_signature((opened(value),), False)
            self.assert_signature((opened((value, ())),), value in ("is", "kind"))
            self.assert_signature((opened(("aa", value)),), value == ())


class Point12(unittest.TestCase):
    """Each closed kind has a value."""

    def test_closed_kinds_without_a_value(self):
        self.assertIs(is_signature((closed(),)), False)
        self.assertIs(is_signature((closed(("next", (0,))),)), False)
        self.assertIs(is_signature((closed(("pair", (0, 0))),)), False)
        self.assertIs(is_signature((closed(("aa", (1,))), closed(("bb", (0,))))), False)
        self.assertIs(is_signature((opened(), closed(("bb", (1, 0))))), False)
        self.assertIs(is_signature((closed(("aa", ())), closed(("bb", (0, 1)), ("cc", (1, 0))))), False)
        self.assertIs(is_signature((closed(("aa", (1,))), closed(("bb", (2,))), closed(("cc", (0,))))), False)

    def test_kinds_that_are_found_late(self):
        self.assertIs(is_signature((closed(("aa", (1,))), closed(("bb", (2,))), closed(("cc", ())))), True)
        self.assertIs(is_signature((closed(("aa", (1, 1))), closed(("bb", (2, 2))), opened())), True)
        self.assertIs(is_signature((closed(("aa", (0,)), ("ab", (1,))), opened(("bb", (0, 0))))), True)
        self.assertIs(is_signature((opened(),)), True)

    def test_a_value_of_at_most_seven_places(self):
        signature = (closed(("aa", (1, 1))), closed(("bb", (2, 2))), closed(("cc", ())))
        value = ("aa", ("bb", ("cc",), ("cc",)), ("bb", ("cc",), ("cc",)))
        self.assertIs(is_value(signature, 0, value), True)
        self.assertEqual(plain.ordered_values(signature, 0, 1, 9), [value])


class Point11(unittest.TestCase):
    def test_values(self):
        self.assertIs(is_value(NUMBERS, 0, ("zero",)), True)
        self.assertIs(is_value(NUMBERS, 0, ("next", ("next", ("zero",)))), True)
        self.assertIs(is_value(NUMBERS, 1, ("box", ("next", ("zero",)))), True)
        self.assertIs(is_value(MIXED, 0, ("fork", ("leaf", ("#", 3)), ("leaf", ("flag", ("no",))))), True)

    def test_strangers_are_of_open_kinds_alone(self):
        for number in (0, 1, 9, 10 ** 40):
            self.assertIs(is_value(NUMBERS, 1, ("#", number)), True)
            self.assertIs(is_value(NUMBERS, 0, ("#", number)), False)
            self.assertIs(is_value(NUMBERS, 1, ("box", ("#", number))), False)
            self.assertIs(is_value(TYPES, 0, ("pair", ("#", number), ("#", number))), True)

    def test_numbers_of_strangers(self):
        for number in (*NO_INTEGERS, -1, -10 ** 20):
            self.assertIs(is_value(NUMBERS, 1, ("#", number)), False)
        for value in (("#",), ("#", 0, 0), ["#", 0], ("##", 0), "#0", ("#", 0, ("zero",))):
            self.assertIs(is_value(NUMBERS, 1, value), False)

    def test_no_values(self):
        for value in (("next",), ("zero", ("zero",)), ("next", ("zero",), ("zero",)), ("next", ("box", ("zero",))),
                      ("box", ("zero",)), ("none",), ("next", ["zero"]), ["zero"], ("next", 0), 0, ("zero", ()),
                      ("next", "zero"), "zero", ("next", ()), (("zero",),), ("",), ()):
            self.assertIs(is_value(NUMBERS, 0, value), False)

    def test_every_value_is_found(self):
        for signature in some_signatures(30, 11):
            for kind in range(len(signature)):
                for value in plain.ordered_values(signature, kind, 2, 5):
                    for other in range(len(signature)):
                        stranger = value[0] == "#" and plain.is_open(signature, other)
                        self.assertIs(is_value(signature, other, value), other == kind or stranger)

    def test_400_places(self):
        self.assertIs(is_value(NUMBERS, 0, chain("next", 399, ("zero",))), True)
        self.assertIs(is_value(NUMBERS, 0, chain("next", 400, ("zero",))), False)
        self.assertIs(is_value(TYPES, 0, chain("ptr", 399, ("#", 5))), True)
        self.assertIs(is_value(TYPES, 0, chain("ptr", 400, ("#", 5))), False)
        wide = ("int",)
        for _ in range(199):
            wide = ("pair", ("int",), wide)
        self.assertEqual(plain.places(wide), 399)
        self.assertIs(is_value(TYPES, 0, ("ptr", wide)), True)
        self.assertIs(is_value(TYPES, 0, ("ptr", ("ptr", wide))), False)
        self.assertIs(is_value(TYPES, 0, ("pair", ("int",), wide)), False)

    def test_whatever_is_judged(self):
        for signature in (NUMBERS, TYPES):
            for value in (*NOTHINGS, *deep_things()):
                self.assertIs(is_value(signature, 0, value), False)
                self.assertIs(is_value(signature, 0, ("next", value)), False)
                self.assertIs(is_value(signature, 0, ("pair", ("int",), value)), False)
                self.assertIs(is_value(signature, 0, (value,)), False)

    def test_wrong_arguments(self):
        """Point 21."""
        for function in (lambda s, k: is_value(s, k, ("zero",)), is_finite):
            for signature in (*NOTHINGS, *deep_things(), [NUMBERS[0]], (closed(),)):
                bad(self, "signature", function, signature, 0)
                bad(self, "signature", function, signature, None)
            for kind in (*NO_INTEGERS, -1, 2, 10 ** 20):
                bad(self, "kind", function, NUMBERS, kind)


class Point13(unittest.TestCase):
    def test_finite_kinds(self):
        self.assertIs(is_finite(ONE, 0), True)
        self.assertEqual([is_finite(BIG, kind) for kind in range(3)], [True, True, True])
        self.assertEqual([is_finite(NUMBERS, kind) for kind in range(2)], [False, False])
        self.assertEqual([is_finite(MIXED, kind) for kind in range(3)], [False, False, True])

    def test_open_kinds_are_never_finite(self):
        self.assertIs(is_finite((opened(),), 0), False)
        self.assertIs(is_finite((opened(("aa", ())),), 0), False)

    def test_what_leads_to_an_open_kind_or_to_a_ring(self):
        signature = (closed(("aa", (1,))), closed(("bb", ()), ("bc", (2,))), opened())
        self.assertEqual([is_finite(signature, kind) for kind in range(3)], [False, False, False])
        signature = (closed(("aa", (1,))), closed(("bb", ()), ("bc", (1,))), closed(("cc", ())))
        self.assertEqual([is_finite(signature, kind) for kind in range(3)], [False, False, True])
        signature = (closed(("aa", ()), ("ab", (1,))), closed(("bb", (0,))), closed(("cc", (0, 0))))
        self.assertEqual([is_finite(signature, kind) for kind in range(3)], [False, False, False])

    def test_all_shapes(self):
        for signature in some_signatures(300, 13):
            for kind in range(len(signature)):
                self.assertIs(is_finite(signature, kind), plain.finite(signature, kind), (signature, kind))


if __name__ == "__main__":
    unittest.main()
