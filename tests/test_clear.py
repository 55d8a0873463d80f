"""Points 62 to 72: clear and complete tables, patterns that are ever chosen, and tables that are alike."""

import itertools
import random
import unittest

from closestfit.choice import choice_of
from closestfit.clear import (accepts_alike, accepts_chosen, accepts_clear, accepts_complete, alike_evidence, are_alike,
                              chosen_evidence, clear_evidence, complete_evidence, is_clear, is_complete, is_ever_chosen,
                              needed_part)
from closestfit.errors import BadValue, FitError, NotPossible, TooLarge
from closestfit.kinds import is_finite
from closestfit.meets import meet_of
from closestfit.patterns import is_below
from closestfit.strangers import with_constructor
from tests import plain, plain_cases, plain_tables
from tests.makers import covering_table, much_changed, some_kinds, some_table
from tests.samples import (MIXED, NOTHINGS, NUMBERS, ONE, TYPES, bad, chain, deep_things, not_possible, some_signatures,
                           too_large)
from tests.tables import (MORE_SPECIAL, SIX, SPECIAL, boxed_pigeons, great_gap, great_value, leaves_of, meeting_in,
                          split_tree)
from tests.test_covers import pigeons

ZERO = ("zero",)
INT = ("int",)
ONLY = ("one",)
BOTH = (0, 0)


def nxt(term):
    return ("next", term)


def ptr(term):
    return ("ptr", term)


POINTERS = ((ptr(0), 1), (0, ptr(1)), (ptr(0), ptr(1)))


def with_300():
    return pigeons((("ea", ()), ("eb", ()), ("ec", ())), ((("ea",), "wa"), (("eb",), "wb"), (("ec",), "wd")))


def with_301():
    return pigeons((("ea", ()), ("eb", ()), ("ec", ()), ("ed", ())),
                   ((("ea",), "wa"), (("eb",), "wb"), (("ec",), "wa"), (("ec",), "wb")))


def refilled(signature, kinds, table, dice, often=0.95):
    """The table with some of the meets of its patterns, so that it is clear more often."""
    found = list(table)
    for one, other in itertools.combinations(table, 2):
        meet = plain_cases.meet(one, other)
        if meet not in (None, "large") and plain_cases.size(meet) <= 16 and meet not in found and dice.random() < often:
            found.append(meet)
    return tuple(found[:12])


def overlapping(signature, kinds, dice):
    """Patterns of several splits, which often meet each other."""
    found = ()
    for _ in range(dice.randint(2, 3)):
        rows = covering_table(signature, kinds, dice, dice.randint(0, 2))
        found += tuple(dice.sample(rows, min(len(rows), 3)))
    return tuple(dict.fromkeys(found))


def some_tables(many, seed):
    """Quintuples of dice, signature, kinds, table, and for each kind whether it is finite."""
    dice = random.Random(seed)
    for number, signature in enumerate(some_signatures(many, seed)):
        closed = [kind for kind in range(len(signature)) if not plain.is_open(signature, kind)]
        if number % 4 and closed:
            kinds = tuple(dice.choice(closed) for _ in range(dice.randint(1, 3)))
        else:
            kinds = some_kinds(signature, dice)
        if number % 3:
            table = overlapping(signature, kinds, dice)
        else:
            table = covering_table(signature, kinds, dice, dice.randint(0, 4))
            table = tuple(dict.fromkeys((*table, *some_table(signature, kinds, dice, dice.randint(0, 2)))))[:12]
        if number % 2:
            table = refilled(signature, kinds, table, dice, dice.choice((0.5, 0.9, 1.0)))
        if number % 5 == 0:
            table = tuple(dice.sample(table, len(table)))
        yield dice, signature, kinds, table, [is_finite(signature, kind) for kind in range(len(signature))]


def told_or_word(function, *arguments):
    """What is told, the word of TooLarge, or ("not", word) for NotPossible."""
    try:
        return function(*arguments)
    except TooLarge as error:
        return error.what
    except NotPossible as error:
        return ("not", error.why)


class Points62To65(unittest.TestCase):
    def test_told_and_judged_as_the_points_read(self):
        words = {"clear": 0, "two": 0}
        for dice, signature, kinds, table, finite in some_tables(500, 162):
            right = plain_tables.told_clear(signature, kinds, table, finite)
            told = told_or_word(clear_evidence, signature, kinds, table)
            self.assertEqual(told, right)
            if isinstance(told, str):
                continue
            words[told[0]] += 1
            self.assertIs(is_clear(signature, kinds, table), told[0] == "clear")
            self.assertIs(accepts_clear(signature, kinds, table, told), True)
            self.assertIs(plain_tables.accepts_clear(signature, kinds, table, told), True)
            for value in (*much_changed(told, dice, 8), ("clear", ()), ("two", told[1]), ("clear", told[1])):
                accepted = accepts_clear(signature, kinds, table, value)
                self.assertIs(accepted, plain_tables.accepts_clear(signature, kinds, table, value))
                self.assertTrue(not accepted or value[0] == told[0])
        self.assertGreater(min(words.values()), 60)

    def test_clear_means_two_at_no_values(self):
        """Point 62, at all small values, and at the told ones."""
        seen = {"clear": 0, "two": 0}
        for _, signature, kinds, table, _ in some_tables(150, 63):
            kinds, table = kinds[:2], tuple(dict.fromkeys(plain_cases.numbered(pattern[:2]) for pattern in table))
            told = clear_evidence(signature, kinds, table)
            seen[told[0]] += 1
            if told[0] == "two":
                self.assertEqual(choice_of(signature, kinds, table, told[1])[0], "two")
                continue
            columns = [plain.ordered_values(signature, kind, 2, 4)[:20] for kind in kinds]
            for values in itertools.product(*columns):
                self.assertNotIsInstance(plain_cases.answer(table, values), tuple)
        self.assertGreater(min(seen.values()), 20)

    def test_examples(self):
        self.assertEqual(clear_evidence(TYPES, BOTH, POINTERS[:2]), ("two", (ptr(("#", 0)), ptr(("#", 1)))))
        self.assertEqual(clear_evidence(TYPES, BOTH, POINTERS),
                         ("clear", ((0, 1, ("by", 2)), (0, 2, ("by", 2)), (1, 2, ("by", 2)))))
        self.assertEqual(clear_evidence(TYPES, BOTH, ()), ("clear", ()))
        self.assertEqual(clear_evidence(TYPES, BOTH, ((INT, 0), (ptr(0), 1))), ("clear", ()))
        # Without a common one below both, but covered by two together.
        table = ((nxt(0), 1), (0, nxt(1)), (nxt(0), nxt(ZERO)), (nxt(0), nxt(nxt(1))))
        told = clear_evidence(NUMBERS, BOTH, table)
        self.assertEqual(told[1][0], (0, 1, ("split", 1, (("by", 2), ("by", 3)))))
        self.assertIs(is_clear(NUMBERS, BOTH, table), True)
        self.assertIs(is_clear(NUMBERS, BOTH, table[:3]), False)

    def test_the_numbers_are_those_below_both(self):
        """If one is below the other one, it is one of them; one that is below neither does not count."""
        self.assertEqual(clear_evidence(NUMBERS, BOTH, ((0, 1), (0, 0))), ("clear", ((0, 1, ("by", 1)),)))
        self.assertEqual(clear_evidence(NUMBERS, BOTH, ((0, 0), (0, 1))), ("clear", ((0, 1, ("by", 0)),)))
        tree = ("split", 0, (("by", 0), ("by", 0)))
        self.assertIs(accepts_clear(NUMBERS, BOTH, ((0, 0), (0, 1)), ("clear", ((0, 1, tree),))), True)
        self.assertIs(accepts_clear(NUMBERS, BOTH, ((0, 0), (0, 1)), ("clear", ((0, 1, ("by", 1)),))), False)
        # The third pattern matches all that the first two have in common, but it is below the first one alone.
        table = ((nxt(0), 1), (0, nxt(1)), (nxt(0), nxt(1)))
        self.assertIs(accepts_clear(NUMBERS, BOTH, table, ("clear", ((0, 1, ("by", 2)), (0, 2, ("by", 2)), (1, 2, ("by", 2))))),
                      True)
        self.assertIs(accepts_clear(NUMBERS, BOTH, table, ("clear", ((0, 1, ("by", 0)), (0, 2, ("by", 2)), (1, 2, ("by", 2))))),
                      False)

    def test_the_trees_are_for_the_numbered_meet(self):
        table = ((nxt(0), 1), (0, nxt(1)), (nxt(0), nxt(ZERO)), (nxt(0), nxt(nxt(1))))
        told = clear_evidence(NUMBERS, BOTH, table)
        for variable, right in ((1, True), (2, False), (3, False)):
            rows = ((0, 1, ("split", variable, (("by", 2), ("by", 3)))), *told[1][1:])
            self.assertIs(accepts_clear(NUMBERS, BOTH, table, ("clear", rows)), right)

    def test_rows_of_somebody_else(self):
        table = ((0,), (nxt(0),))
        for many, right in ((1, True), (2, True), (300, True), (301, False), (5000, False)):
            tree = split_tree(many)
            if many > 1:
                tree = with_leaves_by(tree, 1)
            else:
                tree = ("by", 1)
            self.assertIs(accepts_clear(NUMBERS, (0,), table, ("clear", ((0, 1, tree),))), right)

    def test_wrong_rows(self):
        table = POINTERS
        right = clear_evidence(TYPES, BOTH, table)[1]
        by = ("by", 2)
        for rows in ((), right[:2], right[1:], right[::-1], (*right, right[0]), list(right), ([0, 1, by], *right[1:]),
                     ((False, 1, by), *right[1:]), ((0, True, by), *right[1:]), ((0, 1), *right[1:]), ((0, 1, by, by), *right[1:]),
                     ((1, 0, by), *right[1:]), ((0, 1, ("by", 0)), *right[1:]), ((0, 1, None), *right[1:]), None, 0,
                     ((0, 0, by), *right), (*right[:2], (1, 2, ("by", True)))):
            self.assertIs(accepts_clear(TYPES, BOTH, table, ("clear", rows)), False)
        for value in (("clear",), ("clear", right, 0), ["clear", right], ("Clear", right), right, None, ("two", right)):
            self.assertIs(accepts_clear(TYPES, BOTH, table, value), False)

    def test_wrong_values(self):
        table = POINTERS[:2]
        star = ptr(("#", 0))
        for values, right in (((star, star), True), ((star, ptr(("#", 7))), True), ((star, ("#", 0)), False),
                              ((ptr(INT), ptr(chain("ptr", 398, INT))), True), ((ptr(INT), ptr(chain("ptr", 399, INT))), False),
                              ([star, star], False), ((star,), False), ((star, star, star), False), ((star, ptr(0)), False),
                              ((star, ptr(("#", True))), False), (None, False), ((star, ["ptr", INT]), False)):
            self.assertIs(accepts_clear(TYPES, BOTH, table, ("two", values)), right)
            self.assertIs(accepts_clear(TYPES, BOTH, table, ("clear", values)), False)
            self.assertIs(accepts_clear(TYPES, BOTH, POINTERS, ("two", values)), False)

    def test_the_first_pair_ends_it(self):
        """Of two values and a large meet the first one in the order of the pairs is told."""
        one, other = meeting_in(61)
        kinds = SIX
        quarrel = ((INT, 0, 1, 2, 3, 4), (0, INT, 1, 2, 3, 4))
        values = (INT, INT, ("#", 0), ("#", 1), ("#", 2), ("#", 3))
        self.assertEqual(clear_evidence(TYPES, kinds, (*quarrel, one, other)), ("two", values))
        self.assertIs(is_clear(TYPES, kinds, (*quarrel, one, other)), False)
        too_large(self, "terms", clear_evidence, TYPES, kinds, (one, other, *quarrel))
        too_large(self, "terms", is_clear, TYPES, kinds, (one, other, *quarrel))
        # The pairs (0, 1) and (0, 2) come before (1, 2).
        off = (INT, ptr(0), 1, 2, 3, 4)
        too_large(self, "terms", is_clear, TYPES, kinds, (off, one, other, *quarrel))
        self.assertIs(is_clear(TYPES, kinds, (off, quarrel[0], (0, ptr(1), 2, 3, 4, 5), one, other)), False)
        too_large(self, "terms", is_clear, TYPES, kinds, (one, off, other, *quarrel))

    def test_meets_of_60_and_61_places(self):
        one, other = meeting_in(60)
        self.assertEqual(plain_cases.size(meet_of(TYPES, SIX, one, other)), 60)
        told = clear_evidence(TYPES, SIX, (one, other))
        self.assertEqual(told[0], "two")
        self.assertIs(accepts_clear(TYPES, SIX, (one, other), told), True)
        one, other = meeting_in(61)
        too_large(self, "terms", clear_evidence, TYPES, SIX, (one, other))
        too_large(self, "terms", is_clear, TYPES, SIX, (one, other))
        five = chain("ptr", 10, ("#", 0))
        values = (five,) * 5 + (chain("ptr", 5, INT),)
        self.assertIs(accepts_clear(TYPES, SIX, (one, other), ("two", values)), True)
        for tree in (("by", 0), ("by", 1), ("split", 0, ())):
            self.assertIs(accepts_clear(TYPES, SIX, (one, other), ("clear", ((0, 1, tree),))), False)
        self.assertIs(accepts_clear(TYPES, SIX, (one, other), ("clear", ())), False)

    def test_trees_of_300_leaves_and_more(self):
        signature, kinds, table = boxed_pigeons(SPECIAL)
        told = clear_evidence(signature, kinds, table)
        # The first pair is passed, the special ones end it.
        self.assertEqual(told[0], "two")
        meet = meet_of(signature, kinds, table[0], table[1])
        tree = plain_cases.told_cover(signature, kinds, meet, table, tuple(range(2, len(table))), [True] * 3)
        self.assertEqual(len(leaves_of(tree[1])), 300)
        signature, kinds, table = boxed_pigeons(MORE_SPECIAL)
        too_large(self, "cases", clear_evidence, signature, kinds, table)
        too_large(self, "cases", is_clear, signature, kinds, table)
        # With the two at the end another pair ends it before.
        self.assertIs(is_clear(signature, kinds, table[::-1]), False)
        self.assertIs(accepts_clear(signature, kinds, table, clear_evidence(signature, kinds, table[::-1])), True)

    def test_whatever_is_judged(self):
        for value in (*NOTHINGS[:3], *NOTHINGS[4:], *deep_things()):
            for evidence in (value, (value,), ("clear", value), ("two", value), ("clear", (value,)), ("clear", (value,) * 3),
                             ("clear", ((0, 1, value), (0, 2, ("by", 2)), (1, 2, ("by", 2)))), ("two", (value, value)),
                             ("clear", ((value, 1, ("by", 2)), (0, 2, ("by", 2)), (1, 2, ("by", 2)))), (value, value)):
                self.assertIs(accepts_clear(TYPES, BOTH, POINTERS, evidence), False)
                self.assertIs(accepts_clear(TYPES, BOTH, POINTERS[:2], evidence), False)
                # Without patterns there is one piece of evidence alone.
                self.assertIs(accepts_clear(TYPES, BOTH, (), evidence), evidence == ("clear", ()))


def with_leaves_by(tree, number):
    """The tree that goes down at its last trees, with other leaves."""
    variables = []
    while tree[0] == "split":
        variables.append(tree[1])
        tree = tree[2][1]
    tree = ("by", number)
    for variable in variables[::-1]:
        tree = ("split", variable, (("by", number), tree))
    return tree


class Point66(unittest.TestCase):
    def test_told_and_judged_as_the_point_reads(self):
        words = {"complete": 0, "gap": 0}
        for dice, signature, kinds, table, finite in some_tables(400, 66):
            right = plain_tables.told_complete(signature, kinds, table, finite)
            told = told_or_word(complete_evidence, signature, kinds, table)
            self.assertEqual(told, right)
            if isinstance(told, str):
                continue
            words[told[0]] += 1
            self.assertIs(is_complete(signature, kinds, table), told[0] == "complete")
            self.assertIs(accepts_complete(signature, kinds, table, told), True)
            for value in (*much_changed(told, dice, 8), ("gap", told[1]), ("complete", told[1]), ("complete", ("by", 0))):
                accepted = accepts_complete(signature, kinds, table, value)
                self.assertIs(accepted, plain_tables.accepts_complete(signature, kinds, table, value))
                self.assertTrue(not accepted or value[0] == told[0])
            if told[0] == "gap":
                self.assertEqual(choice_of(signature, kinds, table, told[1]), "none")
        self.assertGreater(min(words.values()), 60)

    def test_examples(self):
        table = ((ZERO, 0), (nxt(0), 1))
        self.assertEqual(complete_evidence(NUMBERS, BOTH, table), ("complete", ("split", 0, (("by", 0), ("by", 1)))))
        self.assertEqual(complete_evidence(NUMBERS, BOTH, table[:1]), ("gap", (nxt(ZERO), ZERO)))
        self.assertEqual(complete_evidence(NUMBERS, BOTH, ()), ("gap", (ZERO, ZERO)))
        self.assertEqual(complete_evidence(TYPES, (0,), ((INT,), (ptr(0),))), ("gap", (("#", 0),)))
        self.assertEqual(complete_evidence(TYPES, (0,), ((INT,), (0,))), ("complete", ("by", 1)))
        other = ("complete", ("split", 1, (("split", 0, (("by", 0), ("by", 1))), ("split", 0, (("by", 0), ("by", 1))))))
        self.assertIs(accepts_complete(NUMBERS, BOTH, table, other), True)
        self.assertIs(accepts_complete(NUMBERS, BOTH, table[:1], other), False)
        self.assertIs(accepts_complete(NUMBERS, BOTH, table[:1], ("gap", (nxt(nxt(ZERO)), nxt(ZERO)))), True)
        self.assertIs(accepts_complete(NUMBERS, BOTH, table, ("gap", (nxt(nxt(ZERO)), nxt(ZERO)))), False)

    def test_trees_of_300_and_301_leaves(self):
        signature, kinds, case, table = with_300()
        told = complete_evidence(signature, kinds, table)
        self.assertEqual(len(leaves_of(told[1])), 300)
        self.assertIs(is_complete(signature, kinds, table), True)
        self.assertIs(accepts_complete(signature, kinds, table, told), True)
        signature, kinds, case, table = with_301()
        too_large(self, "cases", complete_evidence, signature, kinds, table)
        too_large(self, "cases", is_complete, signature, kinds, table)
        for many, right in ((300, True), (301, False), (5000, False)):
            self.assertIs(accepts_complete(NUMBERS, (0,), ((0,),), ("complete", split_tree(many))), right)

    def test_told_values_of_more_than_400_places(self):
        """Point 72: is_complete never raises TooLarge("value")."""
        signature, kinds, table = great_gap("LRLRL", "LRRRL")
        told = complete_evidence(signature, kinds, table)
        self.assertEqual((told[0], plain.places(told[1][0])), ("gap", 399))
        self.assertIs(accepts_complete(signature, kinds, table, told), True)
        signature, kinds, table = great_gap("LRLRL", "LRRRLL")
        too_large(self, "value", complete_evidence, signature, kinds, table)
        self.assertIs(is_complete(signature, kinds, table), False)

    def test_clear_and_complete_if_there_is_a_choice_at_all_values(self):
        found = 0
        for _, signature, kinds, table, _ in some_tables(200, 661):
            try:
                if not (is_clear(signature, kinds, table) and is_complete(signature, kinds, table)):
                    continue
            except TooLarge:
                continue
            found += 1
            for values in itertools.product(*[plain.ordered_values(signature, kind, 1, 4)[:6] for kind in kinds]):
                self.assertIsInstance(choice_of(signature, kinds, table, values), int)
        self.assertGreater(found, 30)

    def test_whatever_is_judged(self):
        table = ((ZERO, 0), (nxt(0), 1))
        for value in (*NOTHINGS, *deep_things()):
            for evidence in (value, (value,), ("complete", value), ("gap", value), ("gap", (value, value)), (value, value),
                             ("complete", ("split", value, (("by", 0), ("by", 1)))), ("complete", ("split", 0, value)),
                             ("complete", ("split", 0, (("by", 0), value)))):
                if evidence != ("complete", ("split", 0, (("by", 0), ("by", 1)))) or value is False:
                    self.assertIs(accepts_complete(NUMBERS, BOTH, table, evidence), False)
                    self.assertIs(accepts_complete(NUMBERS, BOTH, (), evidence), False)


class Point67(unittest.TestCase):
    def test_told_and_judged_as_the_point_reads(self):
        words = {"chosen": 0, "never": 0}
        for dice, signature, kinds, table, finite in some_tables(350, 67):
            for number in range(len(table)):
                right = plain_tables.told_chosen(signature, kinds, table, number, finite)
                told = told_or_word(chosen_evidence, signature, kinds, table, number)
                self.assertEqual(told, right)
                if isinstance(told, str):
                    continue
                words[told[0]] += 1
                self.assertIs(is_ever_chosen(signature, kinds, table, number), told[0] == "chosen")
                self.assertIs(accepts_chosen(signature, kinds, table, number, told), True)
                for value in (*much_changed(told, dice, 5), ("never", told[1]), ("chosen", told[1])):
                    accepted = accepts_chosen(signature, kinds, table, number, value)
                    self.assertIs(accepted, plain_tables.accepts_chosen(signature, kinds, table, number, value))
                    self.assertTrue(not accepted or value[0] == told[0])
                if told[0] == "chosen":
                    self.assertEqual(choice_of(signature, kinds, table, told[1]), number)
        self.assertGreater(min(words.values()), 60)

    def test_never_chosen_without_one_below(self):
        """The first pattern matches numbers that are equal; both others together match all of these."""
        table = ((0, 0), (ZERO, 0), (nxt(0), 1))
        self.assertEqual(chosen_evidence(NUMBERS, BOTH, table, 0), ("never", ("split", 0, (("by", 1), ("by", 2)))))
        self.assertIs(is_ever_chosen(NUMBERS, BOTH, table, 0), False)
        self.assertEqual(chosen_evidence(NUMBERS, BOTH, table, 1), ("chosen", (ZERO, nxt(ZERO))))
        self.assertEqual(chosen_evidence(NUMBERS, BOTH, table[:2], 0), ("chosen", (nxt(ZERO), nxt(ZERO))))

    def test_those_that_it_is_below_do_not_count(self):
        table = ((0, 1), (ZERO, 0), (ZERO, ZERO))
        self.assertEqual(chosen_evidence(NUMBERS, BOTH, table, 2), ("chosen", (ZERO, ZERO)))
        self.assertEqual(chosen_evidence(NUMBERS, BOTH, table, 1), ("chosen", (ZERO, nxt(ZERO))))
        self.assertEqual(chosen_evidence(NUMBERS, BOTH, table, 0), ("chosen", (nxt(ZERO), ZERO)))
        self.assertIs(accepts_chosen(NUMBERS, BOTH, table, 2, ("never", ("by", 0))), False)
        self.assertIs(accepts_chosen(NUMBERS, BOTH, table, 2, ("never", ("by", 2))), False)
        self.assertIs(accepts_chosen(NUMBERS, BOTH, table, 0, ("chosen", (ZERO, ZERO))), False)
        self.assertIs(accepts_chosen(ONE, (0,), ((ONLY,), (0,)), 1, ("never", ("split", 0, (("by", 0),)))), True)
        self.assertIs(accepts_chosen(ONE, (0,), ((ONLY,), (0,)), 0, ("chosen", (ONLY,))), True)

    def test_trees_of_300_and_301_leaves(self):
        signature, kinds, case, table = with_300()
        table = (*table, case)
        told = chosen_evidence(signature, kinds, table, len(table) - 1)
        self.assertEqual((told[0], len(leaves_of(told[1]))), ("never", 300))
        self.assertIs(accepts_chosen(signature, kinds, table, len(table) - 1, told), True)
        self.assertIs(is_ever_chosen(signature, kinds, table, len(table) - 1), False)
        signature, kinds, case, table = with_301()
        table = (*table, case)
        too_large(self, "cases", chosen_evidence, signature, kinds, table, len(table) - 1)
        too_large(self, "cases", is_ever_chosen, signature, kinds, table, len(table) - 1)
        table = ((0,), (nxt(0),))
        self.assertIs(accepts_chosen(NUMBERS, (0,), table, 0, ("never", split_tree(300))), False)
        table = ((0, 0), (nxt(0), 1), (ZERO, 0))
        for many, right in ((299, True), (300, False), (5000, False)):
            tree = ("split", 0, (("by", 2), shifted(with_leaves_by(split_tree(many), 1))))
            self.assertIs(accepts_chosen(NUMBERS, BOTH, table, 0, ("never", tree)), right)

    def test_told_values_of_400_and_401_places(self):
        """Point 72: is_ever_chosen never raises TooLarge("value")."""
        signature, kinds, table = great_value(1)
        told = chosen_evidence(signature, kinds, table, 0)
        self.assertEqual((told[0], plain.places(told[1][0])), ("chosen", 400))
        self.assertIs(accepts_chosen(signature, kinds, table, 0, told), True)
        signature, kinds, table = great_value(2)
        too_large(self, "value", chosen_evidence, signature, kinds, table, 0)
        self.assertIs(is_ever_chosen(signature, kinds, table, 0), True)
        values = (("wrap", told[1][0]), told[1][1])
        self.assertEqual(plain.places(values[0]), 401)
        self.assertIs(accepts_chosen(signature, kinds, table, 0, ("chosen", values)), False)

    def test_whatever_is_judged(self):
        table = ((0, 0), (ZERO, 0), (nxt(0), 1))
        for number in range(3):
            for value in (*NOTHINGS, *deep_things()):
                for evidence in (value, (value,), ("never", value), ("chosen", value), ("chosen", (value, value)), (value, value),
                                 ("never", ("by", value)), ("never", ("split", 0, value)),
                                 ("never", ("split", 0, (("by", 1), value)))):
                    self.assertIs(accepts_chosen(NUMBERS, BOTH, table, number, evidence), False)


def shifted(tree):
    """The tree with the variables of the parts of one split more."""
    variables = []
    while tree[0] == "split":
        variables.append(tree[1] + 1)
        leaf = tree[2][0]
        tree = tree[2][1]
    for variable in variables[::-1]:
        tree = ("split", variable, (leaf, tree))
    return tree


class Point68(unittest.TestCase):
    def test_as_the_points_read(self):
        lacking = kept = 0
        for _, signature, kinds, table, finite in some_tables(400, 68):
            right = plain_tables.needed_part(signature, kinds, table, finite)
            told = told_or_word(needed_part, signature, kinds, table)
            self.assertEqual(told, right)
            if isinstance(told, str) or told[:1] == ("not",):
                continue
            lacking += len(told) < len(table)
            kept += len(told) > 0
            self.assertIs(is_clear(signature, kinds, told), True)
            for values in itertools.product(*[plain.ordered_values(signature, kind, 2, 4)[:6] for kind in kinds]):
                near, far = choice_of(signature, kinds, table, values), choice_of(signature, kinds, told, values)
                self.assertEqual(table[near] if near != "none" else None, told[far] if far != "none" else None)
            for number in range(len(told)):
                values = chosen_evidence(signature, kinds, told, number)[1]
                part = told[:number] + told[number + 1:]
                answer = choice_of(signature, kinds, part, values)
                self.assertNotEqual(answer if isinstance(answer, str) else part[answer] if isinstance(answer, int) else None,
                                    told[number])
        self.assertGreater(lacking, 10)
        self.assertGreater(kept, 100)

    def test_examples(self):
        table = ((0, 1), (nxt(0), 1), (ZERO, 0))
        self.assertEqual(needed_part(NUMBERS, BOTH, table), table[1:])
        self.assertEqual(needed_part(NUMBERS, BOTH, table[:2]), table[:2])
        self.assertEqual(needed_part(NUMBERS, BOTH, ()), ())
        not_possible(self, "two", needed_part, TYPES, BOTH, POINTERS[:2])
        self.assertEqual(needed_part(TYPES, BOTH, POINTERS), POINTERS)

    def test_what_is_raised(self):
        """Point 72: first as is_clear, then "two", then as is_ever_chosen for each number."""
        too_large(self, "terms", needed_part, TYPES, SIX, meeting_in(61))
        not_possible(self, "two", needed_part, TYPES, SIX, meeting_in(60))
        signature, kinds, table = boxed_pigeons(MORE_SPECIAL)
        too_large(self, "cases", needed_part, signature, kinds, table)
        not_possible(self, "two", needed_part, signature, kinds, table[::-1])
        signature, kinds, table = equal_letters(3)
        self.assertEqual(needed_part(signature, kinds, table), table[1:])
        self.assertEqual(len(leaves_of(chosen_evidence(signature, kinds, table, 0)[1])), 294)
        signature, kinds, table = equal_letters(4)
        self.assertIs(is_clear(signature, kinds, table), True)
        too_large(self, "cases", is_ever_chosen, signature, kinds, table, 0)
        too_large(self, "cases", needed_part, signature, kinds, table)
        # A number that is looked at before does not help.
        too_large(self, "cases", needed_part, signature, kinds, table[::-1])


def equal_letters(many):
    """A clear table whose first pattern is never chosen; the tree for this has 222 leaves and 18 for each one of many.

    Of three letters of two two are equal. Patterns below the one where all
    three are equal ask for what stands behind them, which makes no difference.
    """
    signature = (("closed", (("la", ()), ("lb", ()))), ("closed", (("wa", (1,)), ("wb", (1,)), ("wc", (1,)), ("wn", ()))))
    table = ((0, 1, 2, 3), (0, 0, 1, 2), (0, 1, 0, 2), (0, 1, 1, 2), (0, 0, 0, 1),
             (0, 0, 0, chain("wa", 11, ("wn",))), (0, 0, 0, ("wb", chain("wa", many, ("wn",)))))
    return signature, (0, 0, 0, 1), table


class Points69And70(unittest.TestCase):
    def some_pairs(self, many, seed):
        """The tables of some_tables, each with others: in another order, with less, with more, and quite other ones."""
        for dice, signature, kinds, table, finite in some_tables(many, seed):
            order = tuple(dice.sample(table, len(table)))
            less = tuple(pattern for pattern in table if dice.random() < 0.8)
            more = tuple(dict.fromkeys((*some_table(signature, kinds, dice, 1), *table)))[:12]
            other = refilled(signature, kinds, some_table(signature, kinds, dice, dice.randint(0, 3)), dice)
            for another in (order, less, more, other):
                yield dice, signature, kinds, table, another, finite

    def test_as_the_point_reads(self):
        words = {"alike": 0, "unlike": 0, "not": 0}
        for dice, signature, kinds, table, other, finite in self.some_pairs(220, 69):
            right = plain_tables.told_alike(signature, kinds, table, other, finite)
            told = told_or_word(alike_evidence, signature, kinds, table, other)
            self.assertEqual(told, right)
            if isinstance(told, str):
                continue
            words[told[0]] += 1
            if told[0] == "not":
                not_possible(self, "two", are_alike, signature, kinds, table, other)
                not_possible(self, "two", accepts_alike, signature, kinds, table, other, None)
                continue
            self.assertIs(are_alike(signature, kinds, table, other), told[0] == "alike")
            self.assertIs(accepts_alike(signature, kinds, table, other, told), True)
            self.assertIs(plain_tables.accepts_alike(signature, kinds, table, other, told), True)
            for value in (*much_changed(told, dice, 6), ("alike", (), ()), ("unlike", told[1])):
                accepted = accepts_alike(signature, kinds, table, other, value)
                self.assertIs(accepted, plain_tables.accepts_alike(signature, kinds, table, other, value))
                self.assertTrue(not accepted or value[0] == told[0])
        self.assertGreater(min(words.values()), 60)

    def test_alike_means_the_same_pattern_at_all_values(self):
        found = {True: 0, False: 0}
        for _, signature, kinds, table, other, _ in self.some_pairs(60, 70):
            try:
                alike = are_alike(signature, kinds, table, other)
            except FitError:
                continue
            found[alike] += 1
            for values in itertools.product(*[plain.ordered_values(signature, kind, 2, 4)[:6] for kind in kinds]):
                near, far = plain_cases.answer(table, values), plain_cases.answer(other, values)
                same = (table[near] if near != "none" else None) == (other[far] if far != "none" else None)
                self.assertTrue(same or not alike)
        self.assertGreater(min(found.values()), 20)

    def test_examples(self):
        table = ((0, 1), (nxt(0), 1), (ZERO, 0))
        self.assertIs(are_alike(NUMBERS, BOTH, table, table[:0:-1]), True)
        told = alike_evidence(NUMBERS, BOTH, table, table[:0:-1])
        self.assertEqual(told, ("alike", (("never", ("split", 0, (("by", 2), ("by", 1)))), ("chosen", (nxt(ZERO), ZERO)),
                                          ("chosen", (ZERO, ZERO))), (("chosen", (ZERO, ZERO)), ("chosen", (nxt(ZERO), ZERO)))))
        self.assertEqual(alike_evidence(NUMBERS, BOTH, (), ()), ("alike", (), ()))
        # Told are the values for the first pattern of the one table, and if there is none of the other table.
        self.assertEqual(alike_evidence(NUMBERS, BOTH, table, ((ZERO, 0),)), ("unlike", (nxt(ZERO), ZERO)))
        self.assertEqual(alike_evidence(NUMBERS, BOTH, ((ZERO, 0),), table), ("unlike", (nxt(ZERO), ZERO)))
        self.assertEqual(alike_evidence(NUMBERS, BOTH, ((ZERO, 0), (nxt(0), ZERO)), (table[2], table[1])),
                         ("unlike", (nxt(ZERO), ZERO)))
        self.assertEqual(alike_evidence(NUMBERS, BOTH, ((0, 1), (0, 0)), ((0, 1),)), ("unlike", (ZERO, ZERO)))
        self.assertEqual(alike_evidence(NUMBERS, BOTH, ((0, 1),), ((0, 1), (0, 0))), ("unlike", (ZERO, ZERO)))

    def test_evidence_of_somebody_else(self):
        one, other = ((0, 1), (nxt(0), 1), (ZERO, 0)), ((ZERO, 0), (nxt(0), 1))
        never = ("never", ("split", 1, (("split", 0, (("by", 2), ("by", 1))),) * 2))
        far, zeros = ("chosen", (nxt(nxt(ZERO)), nxt(ZERO))), ("chosen", (ZERO, nxt(ZERO)))
        right = ("alike", (never, far, zeros), (zeros, far))
        self.assertIs(accepts_alike(NUMBERS, BOTH, one, other, right), True)
        for wrong in (("alike", (never, far, zeros), (far, zeros)), ("alike", (never, far, zeros), (zeros,)),
                      ("alike", (never, far), (zeros, far)), ("alike", [never, far, zeros], (zeros, far)),
                      ("alike", (zeros, far), (never, far, zeros)), ("alike", (never, far, zeros)), ("unlike", ZERO),
                      ("alike", (never, never, zeros), (zeros, never)), ("unlike", (ZERO, ZERO)), ["alike", *right[1:]]):
            self.assertIs(accepts_alike(NUMBERS, BOTH, one, other, wrong), False)
        self.assertIs(accepts_alike(NUMBERS, BOTH, one, other[:1], right), False)
        # Here each piece of evidence is right, but the patterns that are chosen are not the same ones.
        self.assertIs(accepts_alike(NUMBERS, BOTH, one, other[:1], ("alike", right[1], (zeros,))), False)
        for values, accepted in (((nxt(ZERO), ZERO), True), ((nxt(nxt(ZERO)), nxt(ZERO)), True), ((ZERO, ZERO), False)):
            self.assertIs(accepts_alike(NUMBERS, BOTH, one, other[:1], ("unlike", values)), accepted)
            self.assertIs(accepts_alike(NUMBERS, BOTH, other[:1], one, ("unlike", values)), accepted)

    def test_what_is_raised(self):
        """Point 72: as needed_part for the one table, then for the other one; the judge as is_clear for both."""
        clear, two = POINTERS, POINTERS[:2]
        large, quarrel = meeting_in(61), meeting_in(60)
        for function in (are_alike, alike_evidence, lambda s, k, one, other: accepts_alike(s, k, one, other, None)):
            not_possible(self, "two", function, TYPES, BOTH, clear, two)
            not_possible(self, "two", function, TYPES, BOTH, two, clear)
            too_large(self, "terms", function, TYPES, SIX, large, quarrel)
            not_possible(self, "two", function, TYPES, SIX, quarrel, large)
            too_large(self, "terms", function, TYPES, SIX, (), large)
        signature, kinds, table = equal_letters(4)
        values = (("la",), ("la",), ("la",), ("wn",))
        for function in (are_alike, alike_evidence):
            too_large(self, "cases", function, signature, kinds, table, ())
            too_large(self, "cases", function, signature, kinds, (), table)
            # The one table is looked at to the end before the other one.
            too_large(self, "cases", function, signature, kinds, table, ((("la",), 0, 1, 2), (0, ("la",), 1, 2)))
        self.assertIs(accepts_alike(signature, kinds, table, (), ("unlike", values)), True)
        self.assertIs(accepts_alike(signature, kinds, (), table, ("unlike", values)), True)
        signature, kinds, table = boxed_pigeons(MORE_SPECIAL)
        too_large(self, "cases", accepts_alike, signature, kinds, table, (), None)
        too_large(self, "cases", accepts_alike, signature, kinds, (), table, None)

    def test_whatever_is_judged(self):
        for one, other in ((POINTERS, POINTERS[::-1]), (POINTERS, POINTERS[:1]), (POINTERS, ())):
            for value in (*NOTHINGS, *deep_things()):
                for evidence in (value, (value,), ("unlike", value), ("unlike", (value, value)), ("alike", value, value),
                                 ("alike", (value,) * 3, (value,) * 3), (value, value, value), ("alike", value)):
                    self.assertIs(accepts_alike(TYPES, BOTH, one, other, evidence), False)

    def test_open_kinds_alone(self):
        """Point 70: then a table is clear exactly if each meet of two patterns is one of them."""
        dice = random.Random(270)
        found = {True: 0, False: 0}
        for _ in range(300):
            kinds = (0,) * dice.randint(1, 3)
            table = refilled(TYPES, kinds, some_table(TYPES, kinds, dice, dice.randint(1, 5), 3), dice, dice.choice((0.5, 1)))
            meets = [meet_of(TYPES, kinds, one, other) for one, other in itertools.combinations(table, 2)]
            right = all(meet is None or meet in table for meet in meets)
            self.assertIs(is_clear(TYPES, kinds, table), right)
            found[right] += 1
        self.assertGreater(min(found.values()), 20)

    def test_another_order_and_further_patterns(self):
        """Point 70."""
        for dice, signature, kinds, table, _ in some_tables(200, 271):
            other = tuple(dice.sample(table, len(table)))
            try:
                clear = is_clear(signature, kinds, table)
                self.assertIs(is_clear(signature, kinds, other), clear)
                self.assertIs(is_complete(signature, kinds, other), is_complete(signature, kinds, table))
                near = {pattern for n, pattern in enumerate(table) if is_ever_chosen(signature, kinds, table, n)}
                far = {pattern for n, pattern in enumerate(other) if is_ever_chosen(signature, kinds, other, n)}
                self.assertEqual(near, far)
                if not clear or len(table) == 12:
                    continue
                above = tuple(range(len(kinds)))
                if above not in table:
                    self.assertIs(is_clear(signature, kinds, (*table, above)), True)
                lower = table[0] if table else above
                for pattern in table[1:]:
                    meet = plain_cases.meet(lower, pattern)
                    lower = meet if meet not in (None, "large") else lower
                fine = plain_cases.size(lower) <= 16 and all(is_below(signature, kinds, lower, pattern) for pattern in table)
                if fine and lower not in table:
                    self.assertIs(is_clear(signature, kinds, (*table, lower)), True)
            except TooLarge:
                continue


class Point71(unittest.TestCase):
    def test_further_constructors(self):
        many = 0
        for dice, signature, kinds, table, _ in some_tables(300, 71):
            opened = [kind for kind in range(len(signature)) if plain.is_open(signature, kind) and len(signature[kind][1]) < 4]
            if not opened:
                continue
            more = with_constructor(signature, dice.choice(opened), ("zz", (0, dice.choice(opened))))
            other = tuple(dice.sample(table, len(table)))
            calls = [(clear_evidence, accepts_clear, ()), (complete_evidence, accepts_complete, ()),
                     (alike_evidence, accepts_alike, (other,))]
            calls += [(chosen_evidence, accepts_chosen, (number,)) for number in range(len(table))]
            for tells, judges, rest in calls:
                told = told_or_word(tells, signature, kinds, table, *rest)
                self.assertEqual(told_or_word(tells, more, kinds, table, *rest), told)
                if isinstance(told, tuple) and told[0] != "not":
                    many += 1
                    self.assertIs(judges(more, kinds, table, *rest, told), True)
        self.assertGreater(many, 300)


class Point72(unittest.TestCase):
    wrong_tables = ([(0, 1)], ((0, 1), (0, 1)), ((1, 0),), ((0, True),), ((0,),), (0, 1), ([0, 1],), None, True, 0, "", {},
                    ((0, 1), None), tuple((chain("next", many, 0), 1) for many in range(13)),
                    ((chain("next", 15, 0), 1),), ((("#", 0), 0),))

    def test_wrong_arguments(self):
        calls = (is_clear, clear_evidence, is_complete, complete_evidence, needed_part,
                 lambda s, k, t: is_ever_chosen(s, k, t, None), lambda s, k, t: chosen_evidence(s, k, t, None),
                 lambda s, k, t: accepts_clear(s, k, t, None), lambda s, k, t: accepts_complete(s, k, t, None),
                 lambda s, k, t: accepts_chosen(s, k, t, None, None), lambda s, k, t: are_alike(s, k, t, None),
                 lambda s, k, t: alike_evidence(s, k, t, None), lambda s, k, t: accepts_alike(s, k, t, None, None))
        for function in calls:
            for signature in (*NOTHINGS, *deep_things(), [TYPES[0]]):
                bad(self, "signature", function, signature, None, None)
            for kinds in (*NOTHINGS, *deep_things(), [0], (True,), (-1,), (2,), (0,) * 7):
                bad(self, "kinds", function, NUMBERS, kinds, None)
            for table in (*self.wrong_tables, *deep_things()):
                bad(self, "table", function, NUMBERS, BOTH, table)
        table = ((ZERO, 0), (nxt(0), 1))
        for function in (is_ever_chosen, chosen_evidence, lambda s, k, t, n: accepts_chosen(s, k, t, n, None)):
            for number in (*deep_things(), None, True, False, -1, 2, 10 ** 30, "0", (0,), [0], 0.0):
                bad(self, "number", function, NUMBERS, BOTH, table, number)
            bad(self, "number", function, NUMBERS, BOTH, (), 0)
        for function in (are_alike, alike_evidence, lambda s, k, t, o: accepts_alike(s, k, t, o, None)):
            for other in (*self.wrong_tables, *deep_things()):
                bad(self, "other", function, NUMBERS, BOTH, table, other)
            # A wrong argument comes before all else.
            bad(self, "other", function, TYPES, BOTH, POINTERS[:2], None)
        self.assertRaises(BadValue, is_ever_chosen, TYPES, SIX, meeting_in(61), 2)

    def test_edges(self):
        """Tables of 12 patterns, patterns of 16 places, one and six kinds."""
        table = tuple((chain("next", many, 0), 1) for many in range(12))
        self.assertIs(is_clear(NUMBERS, BOTH, table), True)
        self.assertIs(is_complete(NUMBERS, BOTH, table), True)
        self.assertEqual(needed_part(NUMBERS, BOTH, table), table)
        self.assertIs(are_alike(NUMBERS, BOTH, table, table[::-1]), True)
        long = (chain("next", 15, 0),)
        self.assertEqual(clear_evidence(NUMBERS, (0,), (long, (0,))), ("clear", ((0, 1, ("by", 0)),)))
        self.assertEqual(chosen_evidence(NUMBERS, (0,), (long, (0,)), 0), ("chosen", (chain("next", 15, ZERO),)))
        bad(self, "table", is_clear, NUMBERS, (0,), ((chain("next", 16, 0),),))
        bad(self, "other", are_alike, NUMBERS, (0,), (), ((chain("next", 16, 0),),))
        for many in range(1, 7):
            self.assertEqual(complete_evidence(MIXED, (2,) * many, (tuple(range(many)),)), ("complete", ("by", 0)))


if __name__ == "__main__":
    unittest.main()
