"""Points 49 to 60: cases, splits and covers."""

import itertools
import random
import unittest

from closestfit.covers import accepts_cover, cover_evidence, is_covered, split_case
from closestfit.errors import TooLarge
from closestfit.kinds import is_finite
from closestfit.patterns import is_below, matches
from closestfit.strangers import with_constructor
from tests import plain, plain_cases
from tests.makers import (covering_table, equal_table, much_changed, odd_case, some_case, some_kinds, some_table, tangled_case,
                          values_of)
from tests.samples import MIXED, NOTHINGS, NUMBERS, ONE, TYPES, bad, chain, deep_things, some_signatures, too_large

ZERO = ("zero",)
BOTH = (0, 0)
INT = ("int",)
# Three finite kinds with four, two and three values, and pairs of them.
YES = (("closed", (("yes", ()), ("no", ()))), ("closed", (("aa", ()), ("ab", ()), ("ac", ()), ("ad", ()))),
       ("closed", (("both", (0, 0)), ("none", ()))))


def nxt(term):
    return ("next", term)


def leaves_of(tree):
    return [tree] if tree[0] == "by" else [leaf for inner in tree[2] for leaf in leaves_of(inner)]


class Point50(unittest.TestCase):
    def test_parts_in_the_order_of_the_constructors(self):
        self.assertEqual(split_case(NUMBERS, BOTH, (0, 1), 0), ((ZERO, 1), (nxt(2), 1)))
        self.assertEqual(split_case(NUMBERS, BOTH, (0, 1), 1), ((0, ZERO), (0, nxt(2))))
        self.assertEqual(split_case(YES, (2,), (0,), 0), ((("both", 1, 2),), (("none",),)))
        self.assertEqual(split_case(MIXED, (0, 0), (5, 5), 5),
                         ((("leaf", 6), ("leaf", 6)), (("fork", 6, 7), ("fork", 6, 7))))

    def test_new_variables_are_behind_the_greatest_one_and_nothing_is_numbered_anew(self):
        self.assertEqual(split_case(NUMBERS, BOTH, (7, 3), 3), ((7, ZERO), (7, nxt(8))))
        self.assertEqual(split_case(NUMBERS, BOTH, (7, 3), 7), ((ZERO, 3), (nxt(8), 3)))
        self.assertEqual(split_case(NUMBERS, (0,), (4,), 4), ((ZERO,), (nxt(5),)))
        self.assertEqual(split_case(NUMBERS, (0, 1), (nxt(2), 9), 2), ((nxt(ZERO), 9), (nxt(nxt(10)), 9)))
        self.assertEqual(split_case(NUMBERS, BOTH, (10 ** 30, 0), 0), ((10 ** 30, ZERO), (10 ** 30, nxt(10 ** 30 + 1))))

    def test_parts_of_more_than_60_places(self):
        told = split_case(NUMBERS, (0,), (chain("next", 59, 0),), 0)
        self.assertEqual(told, ((chain("next", 59, ZERO),), (chain("next", 60, 1),)))
        many = tuple([2] * 6)
        told = split_case(NUMBERS, (0,) * 6, tuple(chain("next", 9, 2) for _ in many), 2)
        self.assertEqual(told[1], tuple(chain("next", 10, 3) for _ in many))

    def test_each_instance_is_one_of_exactly_one_part(self):
        dice = random.Random(50)
        for signature in some_signatures(150, 71):
            kinds = some_kinds(signature, dice)
            case = odd_case(signature, kinds, dice)
            for variable, kind in plain_cases.kinds_of_variables(signature, kinds, case).items():
                if plain.is_open(signature, kind):
                    bad(self, "variable", split_case, signature, kinds, case, variable)
                    continue
                parts = split_case(signature, kinds, case, variable)
                self.assertEqual(parts, tuple(plain_cases.split(signature, kinds, case, variable)))
                values = values_of(signature, kinds, case, dice)
                self.assertEqual(sum(plain_cases.match(part, values) is not None for part in parts), 1)

    def test_wrong_arguments(self):
        """Point 59."""
        for signature in (*NOTHINGS, *deep_things(), [TYPES[0]]):
            bad(self, "signature", split_case, signature, None, None, None)
        for kinds in (*NOTHINGS, *deep_things(), [0], (True,), (-1,), (2,), (0,) * 7):
            bad(self, "kinds", split_case, NUMBERS, kinds, None, None)
        for case in (*NOTHINGS, *deep_things(), [0, 1], (0,), (0, 1, 2), (0, True), (0, ("#", 0)), (0, -1),
                     (chain("next", 59, 0), 1), (0, ["zero"])):
            bad(self, "case", split_case, NUMBERS, BOTH, case, None)
        for variable in (*deep_things(), 2, -1, 10 ** 30, "0", (0,), [0], True, False, None, "zero", "next", (), ZERO):
            bad(self, "variable", split_case, NUMBERS, BOTH, (0, nxt(1)), variable)
        bad(self, "variable", split_case, NUMBERS, (0, 1), (0, 1), 1)
        bad(self, "variable", split_case, NUMBERS, (0,), (ZERO,), 0)


class Points51To54(unittest.TestCase):
    def told(self, signature, kinds, case, table, numbers=None):
        numbers = tuple(range(len(table))) if numbers is None else numbers
        told = cover_evidence(signature, kinds, case, table, numbers)
        self.assertIs(is_covered(signature, kinds, case, table, numbers), told[0] == "covered")
        self.assertIs(accepts_cover(signature, kinds, case, table, numbers, told), True)
        return told

    def test_the_leaf_with_the_least_number(self):
        table = ((nxt(0), 1), (0, nxt(1)), (0, 1))
        self.assertEqual(self.told(NUMBERS, BOTH, (nxt(4), nxt(3)), table), ("covered", ("by", 0)))
        self.assertEqual(self.told(NUMBERS, BOTH, (4, nxt(3)), table), ("covered", ("by", 1)))
        self.assertEqual(self.told(NUMBERS, BOTH, (4, 3), table), ("covered", ("by", 2)))
        self.assertEqual(self.told(NUMBERS, BOTH, (nxt(4), nxt(3)), table, (1, 2)), ("covered", ("by", 1)))

    def test_no_numbers(self):
        self.assertEqual(self.told(NUMBERS, (0,), (nxt(0),), ((0,),), ()), ("left", (nxt(ZERO),)))
        self.assertEqual(self.told(NUMBERS, (0,), (nxt(0),), ()), ("left", (nxt(ZERO),)))
        self.assertEqual(self.told(NUMBERS, (0,), (ZERO,), (), ()), ("left", (ZERO,)))

    def test_the_pattern_with_the_least_weight_asks_first(self):
        """The weights are 2 * 2 and 4: the first one of several is taken; with less it is the other one."""
        table = ((("yes",), 0, ("yes",)), (0, ("aa",), 1))
        kinds = (0, 1, 0)
        self.assertEqual(self.told(YES, kinds, (0, 1, 2), table), ("left", (("yes",), ("ab",), ("no",))))
        cover = (*table, (("yes",), 0, ("no",)), (("no",), 0, 1))
        tree = self.told(YES, kinds, (0, 1, 2), cover)[1]
        # The last pattern has the weight 2, so 0 is asked for first.
        self.assertEqual(tree, ("split", 0, (("split", 2, (("by", 0), ("by", 2))), ("by", 3))))

    def test_equal_weights_take_the_first_pattern(self):
        table = ((0, ("yes",)), (("yes",), 0), (("no",), ("no",)))
        self.assertEqual(self.told(YES, (0, 0), (0, 1), table),
                         ("covered", ("split", 1, (("by", 0), ("split", 0, (("by", 1), ("by", 2)))))))
        table = ((("yes",), 0), (0, ("yes",)), (("no",), ("no",)))
        self.assertEqual(self.told(YES, (0, 0), (0, 1), table),
                         ("covered", ("split", 0, (("by", 0), ("split", 1, (("by", 1), ("by", 2)))))))

    def test_weights_count_the_places_below_a_variable_too(self):
        """A pair of two has 2 * 2 * 2 below its variable; one of four values is less than that."""
        table = ((("both", ("yes",), ("yes",)), 0), (0, ("aa",)))
        told = self.told(YES, (2, 1), (0, 1), table)
        self.assertEqual(told, ("left", (("both", ("yes",), ("no",)), ("ab",))))
        covered = ((("both", ("yes",), 0), ("ab",)), (0, ("aa",)), (0, ("ac",)), (0, ("ad",)), (("none",), ("ab",)),
                   (("both", ("no",), 0), ("ab",)))
        tree = self.told(YES, (2, 1), (0, 1), covered)[1]
        self.assertEqual(tree[1], 1)
        self.assertEqual([inner[0] for inner in tree[2]], ["by", "split", "by", "by"])

    def test_the_variable_that_stands_first_in_the_case(self):
        """From left to right, whatever its number, and also where it first stands at a place that is not asked for."""
        table = ((("yes",), ("yes",)), (("no",), 0), (("yes",), ("no",)))
        self.assertEqual(self.told(YES, (0, 0), (1, 0), ((("yes",), ("yes",)), (0, 1)), (0,)), ("left", (("yes",), ("no",))))
        self.assertEqual(self.told(YES, (0, 0), (7, 2), table)[1][1], 7)
        three = ((0, ("yes",), ("yes",)), (0, ("no",), 1), (0, ("yes",), ("no",)))
        self.assertEqual(self.told(YES, (0, 0, 0), (5, 3, 5), three[:1], (0,)), ("left", (("yes",), ("no",), ("yes",))))
        told = self.told(YES, (0, 0, 0), (5, 3, 5), ((0, ("yes",), ("yes",)), (0, ("no",), ("yes",)), (0, 1, ("no",))))
        self.assertEqual(told[1][1], 5)
        told = self.told(YES, (0, 0, 0), (4, 3, 5), three)
        self.assertEqual(told[1], ("split", 3, (("split", 5, (("by", 0), ("by", 2))), ("by", 1))))

    def test_patterns_that_are_out_ask_for_nothing(self):
        """By another constructor, or by a constructor of an open kind where the case has a variable or below it."""
        kinds = (2, 0)
        table = ((("none",), ("yes",)), (("both", 0, 1), ("no",)))
        self.assertEqual(self.told(YES, kinds, (("both", 3, 4), 5), table),
                         ("left", (("both", ("yes",), ("yes",)), ("yes",))))
        table = ((("leaf", ("flag", 0)), 1), (0, ("yes",)))
        self.assertEqual(self.told(MIXED, (0, 2), (0, 1), table, (0,)), ("left", (("leaf", ("#", 0)), ("yes",))))
        self.assertEqual(self.told(MIXED, (0, 2), (0, 1), table), ("left", (("leaf", ("#", 0)), ("no",))))
        self.assertEqual(self.told(MIXED, (1, 2), (0, 1), ((("tree", 0), ("yes",)),)), ("left", (("#", 0), ("yes",))))
        self.assertEqual(self.told(MIXED, (1, 2), (("flag", 0), 1), ((("flag", ("no",)), ("yes",)), (0, ("no",)))),
                         ("left", (("flag", ("yes",)), ("yes",))))

    def test_a_pattern_is_out_where_parts_that_are_wanted_equal_never_are(self):
        """Then it does not ask, not even where it has constructors."""
        table = ((0, 0, ("yes",)),)
        self.assertEqual(self.told(YES, (1, 1, 0), (("aa",), ("ab",), 3), table), ("left", (("aa",), ("ab",), ("yes",))))
        self.assertEqual(self.told(TYPES, (0, 0), (0, 1), ((0, 0),)), ("left", (("#", 0), ("#", 1))))
        self.assertEqual(self.told(MIXED, (1, 1, 2), (0, 1, 2), ((0, 0, ("no",)),)), ("left", (("#", 0), ("#", 1), ("yes",))))
        self.assertEqual(self.told(MIXED, (1, 1, 2), (0, 0, 2), ((0, 0, ("no",)),)), ("left", (("#", 0), ("#", 0), ("yes",))))

    def test_patterns_that_want_parts_equal_ask_after_the_others(self):
        """The second one has a greater weight than the first one, and still comes first."""
        table = ((0, 0, 1), (0, 1, ("aa",)))
        kinds = (0, 0, 1)
        self.assertEqual(self.told(YES, kinds, (0, 1, 2), table), ("left", (("yes",), ("no",), ("ab",))))
        cover = (*table, (0, 1, ("ab",)), (0, 1, ("ac",)), (("yes",), ("no",), ("ad",)), (("no",), ("yes",), ("ad",)))
        tree = self.told(YES, kinds, (0, 1, 2), cover)[1]
        self.assertEqual(tree[1], 2)
        self.assertEqual(tree[2][:3], (("by", 1), ("by", 2), ("by", 3)))
        self.assertEqual(tree[2][3], ("split", 0, (("split", 1, (("by", 0), ("by", 4))), ("split", 1, (("by", 5), ("by", 0))))))

    def test_weights_where_parts_are_wanted_equal(self):
        """The product over the variables asked for, each one once."""
        table = ((0, 0, 1, 2), (0, 1, 2, 2))
        kinds = (1, 1, 0, 0)
        # The weights are 4 * 4 and 2 * 2.
        told = self.told(YES, kinds, (0, 1, 2, 3), table)
        self.assertEqual(told, ("left", (("aa",), ("ab",), ("yes",), ("no",))))
        cover = (*table, (0, 1, ("yes",), ("no",)), (0, 1, ("no",), ("yes",)))
        tree = self.told(YES, kinds, (0, 1, 2, 3), cover)[1]
        self.assertEqual(tree, ("split", 2, (("split", 3, (("by", 1), ("by", 2))), ("split", 3, (("by", 3), ("by", 1))))))
        table = ((0, 1, 1, 2, 0), (0, 1, 2, 3, 3))
        tree = self.told(YES, (0, 0, 0, 0, 0), (5, 6, 7, 8, 5), table, (1,))
        self.assertEqual(tree, ("left", (("yes",), ("yes",), ("yes",), ("no",), ("yes",))))

    def test_the_least_weight_where_parts_are_wanted_equal(self):
        """Of the last four, of two values each, two pairs are equal or unlike; the first two have four values each."""
        table = ((0, 0, 1, 2, 3), (0, 1, 2, 2, 3), (0, 1, 2, 3, 2), (0, 1, 2, 3, 3))
        tree = self.told(YES, (1, 1, 0, 0, 0), (0, 1, 2, 3, 4), table)[1]
        self.assertEqual(tree, ("split", 2, (
            ("split", 3, (("by", 1), ("split", 4, (("by", 2), ("by", 3))))),
            ("split", 3, (("split", 4, (("by", 3), ("by", 2))), ("by", 1))))))

    def test_all_shapes_of_patterns_that_want_parts_equal(self):
        dice = random.Random(56)
        signature = (("closed", (("ya", ()), ("yb", ()))), ("closed", (("ta", ()), ("tb", ()), ("tc", ()))),
                     ("closed", (("both", (0, 0)), ("none", ()))))
        covered = 0
        for _ in range(1500):
            kinds = tuple(dice.choice((0, 0, 0, 1, 2)) for _ in range(dice.randint(3, 6)))
            table = equal_table(signature, kinds, dice, dice.randint(3, 10))
            case = tuple(range(len(kinds))) if dice.random() < 0.7 else tangled_case(signature, kinds, dice, 4, 4)
            numbers = tuple(range(len(table)))
            right = plain_cases.told_cover_evidence(signature, kinds, case, table, numbers, [True] * 3)
            self.assertEqual(self.told(signature, kinds, case, table), right)
            covered += right[0] == "covered"
        self.assertGreater(covered, 200)

    def test_a_pattern_with_a_variable_that_is_not_finite_does_not_ask(self):
        self.assertEqual(self.told(NUMBERS, (0, 0), (0, 1), ((0, 0),)), ("left", (ZERO, nxt(ZERO))))
        signature = (*NUMBERS[:1], ("closed", (("yes", ()), ("no", ()))))
        self.assertEqual(self.told(signature, (0, 0, 1, 1), (0, 1, 2, 3), ((0, 0, 1, 1),)),
                         ("left", (ZERO, nxt(ZERO), ("yes",), ("yes",))))
        self.assertEqual(self.told(signature, (1, 1), (0, 1), ((0, 0),)), ("left", (("yes",), ("no",))))
        self.assertEqual(self.told(ONE, (0, 0), (0, 1), ((0, 0),)),
                         ("covered", ("split", 0, (("split", 1, (("by", 0),)),))))

    def test_wanted_equal_to_the_part_at_the_first_of_the_places(self):
        """Only the further ones are gone through with the first one, not with each other."""
        table = ((0, 0, 0),)
        told = self.told(YES, (0, 0, 0), (0, 1, 2), table)
        self.assertEqual(told, ("left", (("yes",), ("yes",), ("no",))))
        told = self.told(YES, (2, 2, 2), (("both", 0, 1), 2, ("both", 0, 1)), table)
        self.assertEqual(told, ("left", (("both", ("yes",), ("yes",)), ("both", ("yes",), ("no",)), ("both", ("yes",), ("yes",)))))

    def test_all_shapes(self):
        dice = random.Random(54)
        words = {"by": 0, "split": 0, "left": 0}
        for number, signature in enumerate(some_signatures(500, 72)):
            closed = [kind for kind in range(len(signature)) if not plain.is_open(signature, kind)]
            if number % 5 and closed:
                kinds = tuple(dice.choice(closed) for _ in range(dice.randint(1, 4)))
            else:
                kinds = some_kinds(signature, dice, 5)
            finite = [is_finite(signature, kind) for kind in range(len(signature))]
            table = covering_table(signature, kinds, dice, dice.randint(0, 5))
            for case in (tuple(range(len(kinds))), some_case(signature, kinds, dice, 4), tangled_case(signature, kinds, dice, 5, 2)):
                numbers = tuple(number for number in range(len(table)) if dice.random() < 0.95)
                right = plain_cases.told_cover_evidence(signature, kinds, case, table, numbers, finite)
                if isinstance(right, str):
                    continue
                told = self.told(signature, kinds, case, table, numbers)
                self.assertEqual(told, right)
                words[told[1][0] if told[0] == "covered" else "left"] += 1
                self.assertIs(plain_cases.accepts_cover(signature, kinds, case, table, numbers, told), True)
                for value in much_changed(told, dice, 6):
                    accepted = accepts_cover(signature, kinds, case, table, numbers, value)
                    self.assertIs(accepted, plain_cases.accepts_cover(signature, kinds, case, table, numbers, value))
                    self.assertTrue(not accepted or value[0] == told[0])
        self.assertGreater(min(words.values()), 100)

    def test_cases_and_tables_of_all_shapes(self):
        dice = random.Random(55)
        for signature in some_signatures(200, 73):
            kinds = some_kinds(signature, dice)
            finite = [is_finite(signature, kind) for kind in range(len(signature))]
            table = some_table(signature, kinds, dice, dice.randint(0, 8))
            for case in (odd_case(signature, kinds, dice), tuple(range(len(kinds)))):
                numbers = tuple(range(len(table)))
                right = plain_cases.told_cover_evidence(signature, kinds, case, table, numbers, finite)
                if not isinstance(right, str):
                    self.assertEqual(self.told(signature, kinds, case, table), right)


def pigeons(first, special):
    """A case and a table whose told tree has 33 leaves wherever the first two do not say what is chosen.

    The last four are of a kind with three values, so two of them are equal. At
    each pair of names in special the first two say it, with one leaf.
    """
    signature = (("closed", (("xa", ()), ("xb", ()), ("xc", ()))),
                 ("closed", (("wa", ()), ("wb", ()), ("wc", ()), ("wd", ()))), ("closed", first))
    rows = [(one, (other,), 0, 1, 2, 3) for one, other in special]
    top = "ea" if first[0][1] or first[-1][1] else None
    for i, j in itertools.combinations(range(4), 2):
        last = [2, 3, 4, 5]
        last[j] = last[i]
        rows.append((("ea", 0) if top else 0, 1, *last))
    return signature, (2, 1, 0, 0, 0, 0), tuple(range(6)), tuple(plain_cases.numbered(row) for row in rows)


class LargeTrees(unittest.TestCase):
    """Points 51 and 54: 300 and 301 leaves."""

    below = ((("ea", ("xa",)), "wa"), (("ea", ("xb",)), "wb"), (("ea", ("xc",)), "wd"))

    def test_300_leaves(self):
        signature, kinds, case, table = pigeons((("ea", ()), ("eb", ()), ("ec", ())), (
            (("ea",), "wa"), (("eb",), "wb"), (("ec",), "wd")))
        numbers = tuple(range(len(table)))
        told = cover_evidence(signature, kinds, case, table, numbers)
        self.assertEqual(told[0], "covered")
        self.assertEqual(len(leaves_of(told[1])), 300)
        self.assertIs(is_covered(signature, kinds, case, table, numbers), True)
        self.assertIs(accepts_cover(signature, kinds, case, table, numbers, told), True)
        self.assertEqual(told, plain_cases.told_cover(signature, kinds, case, table, numbers, [True] * 3))

    def test_301_leaves(self):
        signature, kinds, case, table = pigeons((("ea", ()), ("eb", ()), ("ec", ()), ("ed", ())), (
            (("ea",), "wa"), (("eb",), "wb"), (("ec",), "wa"), (("ec",), "wb")))
        numbers = tuple(range(len(table)))
        too_large(self, "cases", cover_evidence, signature, kinds, case, table, numbers)
        too_large(self, "cases", is_covered, signature, kinds, case, table, numbers)
        # With a number less they are fewer.
        told = cover_evidence(signature, kinds, case, table, numbers[1:])
        self.assertEqual(len(leaves_of(told[1])), 301 - 100 + 33)

    def test_300_leaves_and_a_part_that_is_still_to_be_treated(self):
        """It does not matter that this part would be left."""
        signature, kinds, case, table = pigeons((("ea", (0,)), ("eb", ())), self.below)
        numbers = tuple(range(len(table)))
        too_large(self, "cases", cover_evidence, signature, kinds, case, table, numbers)
        too_large(self, "cases", is_covered, signature, kinds, case, table, numbers)
        signature, kinds, case, table = pigeons((("ea", (0,)),), self.below)
        told = cover_evidence(signature, kinds, case, table, numbers)
        self.assertEqual(len(leaves_of(told[1])), 300)

    def test_a_case_that_is_left_before(self):
        signature, kinds, case, table = pigeons((("eb", ()), ("ea", (0,))), self.below)
        told = cover_evidence(signature, kinds, case, table, tuple(range(len(table))))
        self.assertEqual(told, ("left", (("eb",), ("wa",), *[("xa",)] * 4)))

    def test_the_judge_takes_300_leaves(self):
        for many, right in ((1, True), (299, True), (300, False), (301, False)):
            tree = ("by", 0)
            for number in range(many, 0, -1):
                tree = ("split", number - 1, (("by", 0), tree))
            self.assertIs(accepts_cover(NUMBERS, (0,), (0,), ((0,),), (0,), ("covered", tree)), right)

    def test_the_judge_in_a_signature_with_the_other_order(self):
        signature = (("closed", (("next", (0,)), ("zero", ()))),)
        for many, right in ((1, True), (299, True), (300, False), (5000, False)):
            tree = ("by", 0)
            for number in range(many, 0, -1):
                tree = ("split", number - 1, (tree, ("by", 0)))
            self.assertIs(accepts_cover(signature, (0,), (0,), ((0,),), (0,), ("covered", tree)), right)

    def test_deep_trees_of_few_leaves(self):
        signature = (("closed", (("aa", (1, 1)),)), ("closed", (("bb", (2, 2)),)), ("closed", (("cc", ()),)))
        case = (0, 1, 2, 3, 4, 5)
        tree = ("by", 0)
        steps = []
        here = [case]
        while plain_cases.variables_in(here[-1]):
            variable = plain_cases.variables_in(here[-1])[0]
            steps.append(variable)
            here.append(plain_cases.split(signature, (0,) * 6, here[-1], variable)[0])
        for variable in steps[::-1]:
            tree = ("split", variable, (tree,))
        self.assertEqual(len(steps), 42)
        self.assertIs(accepts_cover(signature, (0,) * 6, case, (case,), (0,), ("covered", tree)), True)
        self.assertIs(accepts_cover(signature, (0,) * 6, case, (case,), (0,), ("covered", ("split", 9, (tree,)))), False)


def forks(many, right):
    """A term with so many forks on the left."""
    term = ("nil",)
    for number in range(many):
        term = ("fork", term, right + number if isinstance(right, int) else right)
    return term


def heavy(wraps):
    """A case whose told values have 397 places and one for each wrap."""
    signature = (("closed", (("fork", (0, 0)), ("nil", ()))), ("open", (("cell", (0, 1)), ("wrap", (1,)), ("stop", ()))))
    spine = ("stop",)
    for _ in range(22):
        spine = ("cell", 0, spine)
    return signature, (0, 1), (0, chain("wrap", wraps, spine)), ((forks(7, 0), 7),)


class Points55To57(unittest.TestCase):
    def test_told_values_of_400_and_401_places(self):
        signature, kinds, case, table = heavy(3)
        told = cover_evidence(signature, kinds, case, table, (0,))
        self.assertEqual(told[0], "left")
        self.assertEqual([plain.places(value) for value in told[1]], [17, 400])
        self.assertEqual(told[1][0], forks(8, ("nil",)))
        self.assertIs(accepts_cover(signature, kinds, case, table, (0,), told), True)
        signature, kinds, case, table = heavy(4)
        too_large(self, "value", cover_evidence, signature, kinds, case, table, (0,))
        self.assertIs(is_covered(signature, kinds, case, table, (0,)), False)
        value = plain_cases.put(case, {0: forks(8, ("nil",))})
        self.assertEqual(plain.places(value[1]), 401)
        self.assertIs(accepts_cover(signature, kinds, case, table, (0,), ("left", value)), False)
        value = plain_cases.put(case, {0: ("nil",)})
        self.assertIs(accepts_cover(signature, kinds, case, table, (0,), ("left", value)), True)

    def test_strangers_first_from_left_to_right(self):
        """The numbers go on through all kinds."""
        signature = (("open", (("aa", (1,)),)), ("open", (("bb", ()),)))
        self.assertEqual(cover_evidence(signature, (1, 0, 1), (5, 2, 5), (), ()), ("left", (("#", 0), ("#", 1), ("#", 0))))
        self.assertEqual(cover_evidence(signature, (0, 1, 0), (("aa", 3), 7, 1), (), ()),
                         ("left", (("aa", ("#", 0)), ("#", 1), ("#", 2))))

    def test_finite_kinds_have_their_first_value(self):
        self.assertEqual(cover_evidence(YES, (2, 1, 0), (0, 1, 2), (), ()), ("left", (("none",), ("aa",), ("yes",))))

    def test_fresh_values_have_strangers_behind_all_others(self):
        signature = (("closed", (("leaf", (1, 1)), ("fork", (0, 0)))), ("open", (("flag", ()),)))
        self.assertEqual(cover_evidence(signature, (0, 1, 0, 1), (0, 1, 2, 3), (), ()), ("left", (
            ("leaf", ("#", 2), ("#", 3)), ("#", 0), ("leaf", ("#", 4), ("#", 5)), ("#", 1))))
        self.assertEqual(cover_evidence(signature, (0, 0), (4, 4), (), ()), ("left", (("leaf", ("#", 0), ("#", 1)),) * 2))

    def test_the_first_fresh_value_that_is_not_kept_off(self):
        for many in range(1, 6):
            case = (0, *[chain("next", number, ZERO) for number in range(many)])
            table = tuple(plain_cases.numbered([0, *[0 if number == at else number + 1 for number in range(many)]])
                          for at in range(many))
            told = cover_evidence(NUMBERS, (0,) * (many + 1), case, table, tuple(range(many)))
            self.assertEqual(told[1][0], chain("next", many, ZERO))
            part = cover_evidence(NUMBERS, (0,) * (many + 1), case, table, tuple(range(many - 1)))
            self.assertEqual(part[1][0], chain("next", many - 1, ZERO))

    def test_values_that_can_be_written_in_one_way_without_a_stranger(self):
        signature = (("closed", (("none", ()), ("box", (1,)))), ("open", ()))
        told = cover_evidence(signature, (0, 0), (0, ("none",)), ((0, 0),), (0,))
        self.assertEqual(told, ("left", (("box", ("#", 0)), ("none",))))
        told = cover_evidence(signature, (0, 0), (0, 1), ((0, 0),), (0,))
        self.assertEqual(told, ("left", (("none",), ("box", ("#", 0)))))

    def test_one_after_another_from_left_to_right(self):
        table = ((0, 0, 1), (0, 1, 1), (0, 1, 0))
        self.assertEqual(cover_evidence(NUMBERS, (0, 0, 0), (2, 1, 0), table, (0, 1, 2)),
                         ("left", (ZERO, nxt(ZERO), nxt(nxt(ZERO)))))
        self.assertEqual(cover_evidence(NUMBERS, (0, 0, 0), (2, 1, 0), table, (1,)), ("left", (ZERO, ZERO, nxt(ZERO))))
        self.assertEqual(cover_evidence(NUMBERS, (0, 0, 0), (2, 1, 2), table, (0,)), ("left", (ZERO, nxt(ZERO), ZERO)))

    def test_evidence_of_somebody_else(self):
        """Other trees and other values that are right."""
        table = ((nxt(0), 1), (0, nxt(1)), (ZERO, ZERO))
        trees = (
            ("split", 0, (("split", 1, (("by", 2), ("by", 1))), ("by", 0))),
            ("split", 1, (("split", 0, (("by", 2), ("by", 0))), ("by", 1))),
            ("split", 0, (("split", 1, (("by", 2), ("by", 1))), ("split", 2, (("by", 0), ("by", 0))))),
            ("split", 0, (("split", 1, (("by", 2), ("split", 2, (("by", 1), ("by", 1))))), ("split", 1, (("by", 0), ("by", 1))))),
            ("split", 1, (("split", 0, (("by", 2), ("by", 0))), ("split", 0, (("by", 1), ("by", 1))))),
        )
        for tree in trees:
            self.assertIs(accepts_cover(NUMBERS, BOTH, (0, 1), table, (0, 1, 2), ("covered", tree)), True)
            self.assertIs(accepts_cover(NUMBERS, BOTH, (0, 1), table, (0, 1), ("covered", tree)), False)
            self.assertIs(accepts_cover(NUMBERS, BOTH, (0, 1), table, (0, 1, 2), ("left", tree)), False)
        for values in ((ZERO, ZERO), (ZERO, nxt(ZERO)), (nxt(ZERO), ZERO)):
            self.assertIs(accepts_cover(NUMBERS, BOTH, (0, 1), table, (0, 1), ("left", values)), values == (ZERO, ZERO))
            self.assertIs(accepts_cover(NUMBERS, BOTH, (0, 1), table, (), ("left", values)), True)
            self.assertIs(accepts_cover(NUMBERS, BOTH, (0, 0), table, (), ("left", values)), values == (ZERO, ZERO))

    def test_wrong_trees(self):
        table = ((nxt(0), 1), (0, nxt(1)), (ZERO, ZERO))
        right = ("split", 0, (("split", 1, (("by", 2), ("by", 1))), ("by", 0)))

        def judge(tree, word="covered"):
            told = accepts_cover(NUMBERS, BOTH, (0, 1), table, (0, 1, 2), (word, tree))
            self.assertIs(plain_cases.accepts_cover(NUMBERS, BOTH, (0, 1), table, (0, 1, 2), (word, tree)), told)
            return told
        self.assertIs(judge(right), True)
        self.assertIs(judge(right, "Covered"), False)
        inner = right[2][0]
        for tree in (("by", 0), ("by", 3), ("by", True), ("by", None), ("by",), ("by", 0, 0), ["by", 0],
                     ("split", 0, (inner, ("by", 1))), ("split", 0, (inner, ("by", 0), ("by", 0))), ("split", 0, (inner,)),
                     ("split", 0, [inner, ("by", 0)]), ("split", False, (inner, ("by", 0))), ("split", 2, (inner, ("by", 0))),
                     ("split", -1, (inner, ("by", 0))), ("split", None, (inner, ("by", 0))), ("split", 0), ("split",),
                     ("split", 0, (inner, ("by", 0)), 0), ["split", 0, (inner, ("by", 0))], ("Split", 0, (inner, ("by", 0))),
                     ("split", 1, (inner, ("by", 0))), ("split", 0, (("by", 0), inner)), (), None, ("by", "0"), ("by", -1),
                     ("split", 0, (("split", 0, (("by", 2), ("by", 1))), ("by", 0))), ("split", (0,), (inner, ("by", 0)))):
            self.assertIs(judge(tree), False)
        for value in (("covered",), ("covered", right, 0), ["covered", right], right, ("left", right), (right,), None, ()):
            self.assertIs(accepts_cover(NUMBERS, BOTH, (0, 1), table, (0, 1, 2), value), False)

    def test_numbers_are_those_of_the_table(self):
        table = ((nxt(0),), (ZERO,), (0,))
        self.assertIs(accepts_cover(NUMBERS, (0,), (0,), table, (2,), ("covered", ("by", 2))), True)
        self.assertIs(accepts_cover(NUMBERS, (0,), (0,), table, (1,), ("covered", ("by", 2))), False)
        self.assertIs(accepts_cover(NUMBERS, (0,), (0,), table, (0, 1), ("covered", ("split", 0, (("by", 1), ("by", 0))))), True)
        self.assertIs(accepts_cover(NUMBERS, (0,), (0,), table, (0, 2), ("covered", ("split", 0, (("by", 1), ("by", 0))))), False)
        self.assertIs(accepts_cover(NUMBERS, (0,), (0,), table, (0, 2), ("covered", ("split", 0, (("by", 2), ("by", 0))))), True)

    def test_no_split_at_variables_of_open_kinds(self):
        tree = ("split", 0, (("by", 0),))
        self.assertIs(accepts_cover(NUMBERS, (1,), (0,), ((0,),), (0,), ("covered", tree)), False)
        self.assertIs(accepts_cover(NUMBERS, (1,), (0,), ((0,),), (0,), ("covered", ("by", 0))), True)

    def test_wrong_values(self):
        for values in ((ZERO,), (ZERO, ZERO, ZERO), [ZERO, ZERO], (ZERO, nxt(0)), (0, 1), (ZERO, ("#", 0)), (ZERO, ["zero"]),
                       (ZERO, chain("next", 400, ZERO)), None, ZERO, (ZERO, None), ()):
            self.assertIs(accepts_cover(NUMBERS, BOTH, (0, 1), (), (), ("left", values)), False)
        self.assertIs(accepts_cover(NUMBERS, BOTH, (0, 1), (), (), ("left", (ZERO, chain("next", 399, ZERO)))), True)
        self.assertIs(accepts_cover(NUMBERS, (1,), (0,), (), (), ("left", (("#", 1),))), True)
        self.assertIs(accepts_cover(NUMBERS, (1,), (0,), (), (), ("left", (("#", True),))), False)

    def test_whatever_is_judged(self):
        table = ((nxt(0), 1), (0, nxt(1)), (ZERO, ZERO))
        for numbers in ((0, 1), (0, 1, 2)):
            for value in (*NOTHINGS, *deep_things()):
                for evidence in (value, (value,), ("covered", value), ("left", value), ("left", (value, value)), ("left", (ZERO, value)),
                                 ("covered", ("by", value)), ("covered", ("split", value, (("by", 0), ("by", 0)))),
                                 ("covered", ("split", 0, value)), ("covered", ("split", 0, (value, value))),
                                 ("covered", ("split", 0, (("by", 0), value))), (value, ("by", 0)), ("left", (nxt(value), ZERO))):
                    self.assertIs(accepts_cover(NUMBERS, BOTH, (0, 1), table, numbers, evidence), False)


class Point58(unittest.TestCase):
    def test_open_kinds_alone(self):
        dice = random.Random(58)
        for _ in range(200):
            kinds = (0,) * dice.randint(1, 3)
            table = some_table(TYPES, kinds, dice, dice.randint(0, 6))
            case = odd_case(TYPES, kinds, dice)
            below = [number for number, pattern in enumerate(table) if is_below(TYPES, kinds, case, pattern)]
            told = cover_evidence(TYPES, kinds, case, table, tuple(range(len(table))))
            self.assertEqual(told[0], "covered" if below else "left")
            if below:
                self.assertEqual(told[1], ("by", below[0]))

    def test_further_patterns_lower_cases_other_numbers_and_orders(self):
        dice = random.Random(59)
        covered = 0
        for signature in some_signatures(400, 74):
            closed = [kind for kind in range(len(signature)) if not plain.is_open(signature, kind)] or [0]
            kinds = tuple(dice.choice(closed) for _ in range(dice.randint(1, 3)))
            table = covering_table(signature, kinds, dice, dice.randint(0, 4))
            case = tuple(range(len(kinds)))
            numbers = tuple(range(len(table)))
            try:
                told = is_covered(signature, kinds, case, table, numbers)
                moved = tuple(9 - variable for variable in case)
                self.assertIs(is_covered(signature, kinds, moved, table, numbers), told)
                order = list(table)
                dice.shuffle(order)
                self.assertIs(is_covered(signature, kinds, case, tuple(order), numbers), told)
                lower = some_case(signature, kinds, dice, 4)
                fewer = tuple(number for number in numbers if dice.random() < 0.7)
                if told:
                    covered += 1
                    self.assertIs(is_covered(signature, kinds, lower, table, numbers), True)
                else:
                    self.assertIs(is_covered(signature, kinds, case, table, fewer), False)
            except TooLarge:
                continue
        self.assertGreater(covered, 50)

    def test_further_constructors(self):
        dice = random.Random(60)
        for signature in some_signatures(200, 75):
            kinds = some_kinds(signature, dice)
            table = some_table(signature, kinds, dice, dice.randint(0, 5), 5)
            case = some_case(signature, kinds, dice, 4)
            numbers = tuple(range(len(table)))
            for kind in range(len(signature)):
                if not plain.is_open(signature, kind) or len(signature[kind][1]) == 4:
                    continue
                more = with_constructor(signature, kind, ("zz", (0, kind)))
                try:
                    told = cover_evidence(signature, kinds, case, table, numbers)
                except TooLarge:
                    continue
                self.assertEqual(cover_evidence(more, kinds, case, table, numbers), told)
                self.assertIs(accepts_cover(more, kinds, case, table, numbers, told), True)


class Point59(unittest.TestCase):
    def test_wrong_arguments(self):
        calls = (is_covered, cover_evidence, lambda s, k, c, t, n: accepts_cover(s, k, c, t, n, None))
        for function in calls:
            for signature in (*NOTHINGS, *deep_things(), [TYPES[0]]):
                bad(self, "signature", function, signature, None, None, None, None)
            for kinds in (*NOTHINGS, *deep_things(), [0], (True,), (-1,), (2,), (0,) * 7):
                bad(self, "kinds", function, NUMBERS, kinds, None, None, None)
            for case in (*NOTHINGS, *deep_things(), [0, 1], (0,), (0, 1, 2), (0, True), (0, ("#", 0)), (0, -1),
                         (chain("next", 59, 0), 1), (0, ["zero"])):
                bad(self, "case", function, NUMBERS, BOTH, case, None, None)
            for table in (*[value for value in NOTHINGS if value != ()], *deep_things(), [(0, 1)], ((0, 1), (0, 1)), ((1, 0),),
                          ((0, True),), ((0,),), (0, 1), ([0, 1],), tuple((chain("next", many, 0), 1) for many in range(13))):
                bad(self, "table", function, NUMBERS, BOTH, (0, 1), table, None)
            for numbers in (*[value for value in NOTHINGS if value != ()], *deep_things(), [0], (0, 0), (1, 0), (2,), (-1,), (True,),
                            (False, 1), (0, 1, 2), (0, True), ("0",), (None,), (0, None), 0):
                bad(self, "numbers", function, NUMBERS, BOTH, (0, 1), ((0, 1), (0, 0)), numbers)
        self.assertIs(is_covered(NUMBERS, BOTH, (0, 1), ((0, 1), (0, 0)), (0, 1)), True)
        table = tuple((chain("next", many, 0), 1) for many in range(12))
        self.assertIs(is_covered(NUMBERS, BOTH, (0, 1), table, tuple(range(12))), True)

    def test_cases_of_60_and_61_places(self):
        case = (chain("next", 59, 0),)
        self.assertEqual(cover_evidence(NUMBERS, (0,), case, ((0,),), (0,)), ("covered", ("by", 0)))
        self.assertEqual(cover_evidence(NUMBERS, (0,), case, ((ZERO,),), (0,)), ("left", (chain("next", 59, ZERO),)))
        bad(self, "case", cover_evidence, NUMBERS, (0,), (chain("next", 60, 0),), ((0,),), (0,))

    def test_one_to_six_kinds(self):
        for many in range(1, 7):
            case = tuple(range(many))
            self.assertEqual(cover_evidence(NUMBERS, (0,) * many, case, (case,), (0,)), ("covered", ("by", 0)))
            self.assertEqual(cover_evidence(NUMBERS, (0,) * many, case, (case,), ()), ("left", (ZERO,) * many))


class Point60(unittest.TestCase):
    def test_example(self):
        table = ((nxt(0), 1), (0, nxt(1)), (ZERO, ZERO))
        self.assertEqual(cover_evidence(NUMBERS, BOTH, (0, 1), table, (0, 1, 2)),
                         ("covered", ("split", 0, (("split", 1, (("by", 2), ("by", 1))), ("by", 0)))))
        self.assertEqual(cover_evidence(NUMBERS, BOTH, (0, 1), table, (0, 1)), ("left", (ZERO, ZERO)))
        self.assertEqual(cover_evidence(NUMBERS, BOTH, (0, 1), ((0, 0),), (0,)), ("left", (ZERO, nxt(ZERO))))
        self.assertIs(is_covered(ONE, BOTH, (0, 1), ((0, 0),), (0,)), True)


class Point49(unittest.TestCase):
    def test_covered_means_matched_at_all_values(self):
        """At all small values, and at the told ones."""
        dice = random.Random(49)
        for signature in some_signatures(120, 76):
            kinds = some_kinds(signature, dice, 2)
            table = covering_table(signature, kinds, dice, dice.randint(0, 4))
            case = some_case(signature, kinds, dice, 3)
            numbers = tuple(range(len(table)))
            told = cover_evidence(signature, kinds, case, table, numbers)
            if told[0] == "left":
                self.assertIs(matches(signature, kinds, case, told[1]), True)
                self.assertFalse(any(matches(signature, kinds, pattern, told[1]) for pattern in table))
                continue
            columns = [plain.ordered_values(signature, kind, 2, 4)[:25] for kind in kinds]
            for values in itertools.product(*columns):
                if plain_cases.match(case, values) is not None:
                    self.assertTrue(any(plain_cases.match(pattern, values) is not None for pattern in table))


if __name__ == "__main__":
    unittest.main()
