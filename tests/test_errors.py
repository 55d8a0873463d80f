"""Points 2 and 8: the errors."""

import unittest

from closestfit.choice import choice_evidence, fixed_evidence
from closestfit.counts import number_of, value_at
from closestfit.covers import cover_evidence
from closestfit.errors import BadValue, FitError, NotPossible, TextError, TooLarge
from closestfit.kinds import is_value
from closestfit.meets import meet_evidence
from closestfit.strangers import exchanged, renumbered, with_constructor
from tests.samples import NUMBERS, TYPES, bad, not_possible, too_large

BELOW = (BadValue, TooLarge, NotPossible, TextError)


class Errors(unittest.TestCase):
    def test_fit_error_is_a_value_error(self):
        self.assertTrue(issubclass(FitError, ValueError))
        self.assertEqual(FitError.__bases__, (ValueError,))

    def test_all_are_fit_errors_and_none_is_another_one(self):
        for one in BELOW:
            self.assertTrue(issubclass(one, FitError))
            for other in BELOW:
                self.assertEqual(issubclass(one, other), one is other)

    def test_attributes(self):
        self.assertEqual(BadValue("kind").name, "kind")
        self.assertEqual(TooLarge("terms").what, "terms")
        self.assertEqual(NotPossible("full").why, "full")
        error = TextError(3, "no end")
        self.assertEqual((error.column, error.words), (3, "no end"))

    def test_they_can_be_raised_and_caught(self):
        for error in (BadValue("kind"), TooLarge("rows"), NotPossible("two"), TextError(1, "a"), FitError("odd")):
            with self.assertRaises(FitError):
                raise error
            with self.assertRaises(ValueError):
                raise error


class OrderOfErrors(unittest.TestCase):
    """Point 8: of several wrong arguments the first one is named, and then come the other errors."""

    def test_of_wrong_arguments_the_first_one_is_named(self):
        bad(self, "signature", number_of, (), 7, 10, 0)
        bad(self, "kind", number_of, NUMBERS, 2, 10, 0)
        bad(self, "strangers", number_of, NUMBERS, 1, 10, 0)
        bad(self, "size", number_of, NUMBERS, 1, 9, 0)
        bad(self, "signature", is_value, [], None, None)
        bad(self, "kind", is_value, NUMBERS, None, None)
        bad(self, "signature", renumbered, None, None, None)
        bad(self, "kinds", renumbered, NUMBERS, None, None)
        bad(self, "values", renumbered, NUMBERS, (0,), None)
        bad(self, "signature", exchanged, None, None, None, None)
        bad(self, "kinds", exchanged, NUMBERS, (), None, None)
        bad(self, "values", exchanged, NUMBERS, (0,), (("box",),), None)
        bad(self, "exchange", exchanged, NUMBERS, (0,), (("zero",),), None)

    def test_wrong_arguments_come_before_other_errors(self):
        full = (("open", (("aa", ()), ("bb", ()), ("cc", ()), ("dd", ()))),)
        bad(self, "constructor", with_constructor, full, 0, ("aa", ()))
        not_possible(self, "full", with_constructor, full, 0, ("ee", ()))
        bad(self, "kind", value_at, NUMBERS, 2, 0, 10 ** 9)
        not_possible(self, "index", value_at, NUMBERS, 0, 0, 10 ** 9)
        big = ("int",)
        for _ in range(399):
            big = ("ptr", big)
        stranger = ("ptr", ("#", 0))
        bad(self, "exchange", exchanged, TYPES, (0,), (stranger,), ((0, 0, big), (0, 0, big)))
        too_large(self, "value", exchanged, TYPES, (0,), (stranger,), ((0, 0, big),))

    def test_equal_calls_give_equal_results(self):
        """Point 2."""
        for _ in range(3):
            self.assertEqual(value_at(NUMBERS, 1, 2, 5), value_at(NUMBERS, 1, 2, 5))
            self.assertEqual(renumbered(TYPES, (0,), (("pair", ("#", 4), ("#", 2)),)),
                             (("pair", ("#", 0), ("#", 1)),))

    def test_equal_calls_tell_equal_evidence(self):
        """Point 2, also where the document does not say which evidence is told."""
        one, other, third = (0, 1), (("ptr", 0), 0), (("ptr", 0), ("ptr", 1))
        calls = (lambda: meet_evidence(TYPES, (0, 0), one, other), lambda: meet_evidence(TYPES, (0, 0), (0, 0), (0, ("ptr", 0))),
                 lambda: fixed_evidence(TYPES, (0, 0), (one, third), (0, 1), 0),
                 lambda: fixed_evidence(TYPES, (0, 0), (one, third), (("int",), 1), 0),
                 lambda: cover_evidence(NUMBERS, (0,), (0,), ((("zero",),), (("next", 0),)), (0, 1)),
                 lambda: choice_evidence(TYPES, (0, 0), (one, third), (("int",), ("int",))))
        told = [call() for call in calls]
        self.assertEqual([evidence[0] for evidence in told], ["meet", "apart", "free", "fixed", "covered", "one"])
        for _ in range(3):
            self.assertEqual([call() for call in calls], told)


if __name__ == "__main__":
    unittest.main()
