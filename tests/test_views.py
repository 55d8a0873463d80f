"""Points 138 to 146 and 149: views, what a table chooses in a case, and tables that answer alike in a case."""

import itertools
import unittest

from closestfit.choice import choice_of, is_table
from closestfit.clear import chosen_evidence, is_clear
from closestfit.covers import split_case
from closestfit.meets import meet_of
from closestfit.strangers import with_constructor
from closestfit.views import (accepts_alike_in, accepts_chosen_in, alike_in, alike_in_evidence, chosen_in,
                              chosen_in_evidence, part_of)
from tests import plain, plain_cases, plain_views
from tests.makers import crossing_table, much_changed, odd_case, some_case, some_table
from tests.samples import MIXED, NOTHINGS, NUMBERS, TYPES, bad, chain, deep_things, too_large
from tests.tables import MORE_SPECIAL, SIX, SPECIAL, boxed_pigeons, great_value, meeting_in, split_tree
from tests.test_clear import refilled, some_tables, told_or_word

ZERO = ("zero",)
INT = ("int",)
BOTH = (0, 0)


def nxt(term):
    return ("next", term)


def ptr(term):
    return ("ptr", term)


# Point 143: a closed kind with the values no and yes.
ANSWERS = (("closed", (("no", ()), ("yes", ()))),)
NO, YES = ("no",), ("yes",)
THREE = ((0, YES), (NO, 0), (YES, 0))


def some_questions(many, seed):
    """Sextuples of dice, signature, kinds, table, case, and for each kind whether it is finite."""
    for dice, signature, kinds, table, finite in some_tables(many, seed):
        if dice.random() < 0.6:
            table = refilled(signature, kinds, crossing_table(signature, kinds, dice, dice.randint(1, 5)), dice, 0.4)[:7]
        if dice.random() < 0.3:
            case = tuple(range(len(kinds)))
        elif table and dice.random() < 0.4:
            case = dice.choice(table)
        else:
            case = odd_case(signature, kinds, dice, dice.randint(1, 4))
        yield dice, signature, kinds, table, case, finite


def near_table(signature, kinds, table, dice):
    """Another table that has most of the patterns, perhaps some others, in another order."""
    found = [pattern for pattern in table if dice.random() < dice.choice((0.6, 0.85, 1.0))]
    if dice.random() < 0.4:
        found += some_table(signature, kinds, dice, 1, 3)
    if dice.random() < 0.4:
        found += refilled(signature, kinds, tuple(found), dice, 0.5)
    found = list(dict.fromkeys(found))[:12]
    dice.shuffle(found)
    return tuple(found)


def settled_pair(signature, kinds, table, dice):
    """Two tables with lone patterns that they mostly never choose, as the parts of these stand in both."""
    base, lone = list(table[:2]), []
    for _ in range(2):
        s = some_table(signature, kinds, dice, 1, 3)[0]
        standing = plain_cases.kinds_of_variables(signature, kinds, s)
        closed = [variable for variable, kind in standing.items() if not plain.is_open(signature, kind)]
        if closed:
            parts = [plain_cases.numbered(part) for part in plain_cases.split(signature, kinds, s, dice.choice(closed))]
            base += [part for part in parts if plain_cases.size(part) <= 16]
            lone.append(s)
    base = list(dict.fromkeys(base))
    if not lone:
        return table, near_table(signature, kinds, table, dice)
    one, other = [list(dict.fromkeys((*base, s)))[:12] for s in (lone[0], lone[-1])]
    if dice.random() < 0.4:
        other = base[:12]
    dice.shuffle(one)
    dice.shuffle(other)
    return (tuple(one), tuple(other)) if dice.random() < 0.5 else (tuple(other), tuple(one))


class Point138(unittest.TestCase):
    def test_parts(self):
        self.assertEqual(part_of(ANSWERS, BOTH, THREE, (1, 2)), THREE[1:])
        self.assertEqual(part_of(ANSWERS, BOTH, THREE, (0, 2)), (THREE[0], THREE[2]))
        self.assertEqual(part_of(ANSWERS, BOTH, THREE, ()), ())
        self.assertEqual(part_of(ANSWERS, BOTH, THREE, (0, 1, 2)), THREE)
        self.assertEqual(part_of(ANSWERS, BOTH, (), ()), ())

    def test_as_the_point_reads(self):
        for dice, signature, kinds, table, _, _ in some_questions(80, 138):
            view = tuple(sorted(dice.sample(range(len(table)), dice.randint(0, len(table)))))
            told = part_of(signature, kinds, table, view)
            self.assertEqual(told, plain_views.part_of(table, view))
            self.assertIs(is_table(signature, kinds, told), True)

    def test_wrong_views(self):
        for view in (None, 0, "01", [0, 1], (1, 0), (0, 0), (3,), (0, 3), (-1,), (-1, 0), (True,), (0, True), (None,), ((0,),),
                     ("0",), [], {}):
            bad(self, "view", part_of, ANSWERS, BOTH, THREE, view)
        bad(self, "view", part_of, ANSWERS, BOTH, (), (0,))


class Point140(unittest.TestCase):
    def test_told_and_judged_as_the_point_reads(self):
        words = {"chosen": 0, "never": 0, "apart": 0}
        for dice, signature, kinds, table, case, finite in some_questions(220, 140):
            told_numbers = []
            for number in range(len(table)):
                right = plain_views.told_chosen_in(signature, kinds, table, case, number, finite)
                told = told_or_word(chosen_in_evidence, signature, kinds, table, case, number)
                self.assertEqual(told, right)
                if isinstance(told, str):
                    told_numbers.append(None)
                    continue
                words[told[0]] += 1
                self.assertIs(accepts_chosen_in(signature, kinds, table, case, number, told), True)
                if told[0] == "chosen":
                    told_numbers.append(number)
                    self.assertEqual(choice_of(signature, kinds, table, told[1]), number)
                others = [("apart",), ("never", ("by", 0)), ("chosen", *told[1:]), ("never", *told[1:])]
                for value in (*much_changed(told, dice, 4), *others):
                    accepted = accepts_chosen_in(signature, kinds, table, case, number, value)
                    self.assertIs(accepted, plain_views.accepts_chosen_in(signature, kinds, table, case, number, value))
                    self.assertTrue(not accepted or value[0] == told[0])
            if None not in told_numbers:
                self.assertEqual(chosen_in(signature, kinds, table, case), tuple(told_numbers))
        self.assertGreater(min(words.values()), 80)

    def test_chosen_in_a_case_means_at_some_values_that_it_matches(self):
        many = 0
        for _, signature, kinds, table, case, _ in some_questions(120, 1400):
            told = told_or_word(chosen_in, signature, kinds, table, case)
            if isinstance(told, str):
                continue
            for values in plain_views.small_values(signature, kinds, case):
                found = plain_cases.answer(table, values)
                if isinstance(found, int):
                    many += 1
                    self.assertIn(found, told)
        self.assertGreater(many, 300)

    def test_for_the_case_of_all_values_it_is_ever_chosen(self):
        for _, signature, kinds, table, _, _ in some_questions(60, 1401):
            case = tuple(range(len(kinds)))
            for number in range(len(table)):
                told = told_or_word(chosen_in_evidence, signature, kinds, table, case, number)
                self.assertEqual(told, told_or_word(chosen_evidence, signature, kinds, table, number))

    def test_small_ones(self):
        table = ((nxt(0),), (nxt(nxt(0)),), (nxt(ZERO),))
        self.assertEqual(chosen_in(NUMBERS, (0,), table, (0,)), (1, 2))
        self.assertEqual(chosen_in(NUMBERS, (0,), table, (nxt(ZERO),)), (2,))
        self.assertEqual(chosen_in(NUMBERS, (0,), table, (ZERO,)), ())
        self.assertEqual(chosen_in(NUMBERS, (0,), (), (ZERO,)), ())
        told = chosen_in_evidence(NUMBERS, (0,), table, (0,), 0)
        self.assertEqual(told, ("never", ("split", 0, (("by", 2), ("by", 1)))))
        self.assertEqual(chosen_in_evidence(NUMBERS, (0,), table, (nxt(0),), 1), ("chosen", (nxt(nxt(ZERO)),)))
        self.assertEqual(chosen_in_evidence(NUMBERS, (0,), table, (ZERO,), 1), ("apart",))
        for value, right in ((("apart",), False), (told, True), (("never", ("by", 1)), False), (("never", ("by", 0)), False),
                             (("never", ("split", 0, (("by", 2), ("by", 0)))), False),
                             (("never", ("split", 0, (("by", 2), ("split", 1, (("by", 1), ("by", 1)))))), True),
                             (("chosen", (nxt(ZERO),)), False), (["apart"], False), (("apart", 0), False)):
            self.assertIs(accepts_chosen_in(NUMBERS, (0,), table, (0,), 0, value), right)
        # Values at which the number is the choice, but outside of the case.
        two = nxt(nxt(ZERO))
        self.assertIs(accepts_chosen_in(NUMBERS, (0,), table, (0,), 1, ("chosen", (two,))), True)
        self.assertIs(accepts_chosen_in(NUMBERS, (0,), table, (nxt(nxt(nxt(0))),), 1, ("chosen", (two,))), False)
        self.assertIs(accepts_chosen_in(NUMBERS, (0,), table, (ZERO,), 1, ("chosen", (two,))), False)
        self.assertIs(accepts_chosen_in(NUMBERS, (0,), table, (ZERO,), 1, ("apart",)), True)

    def test_the_tree_is_for_the_meet_as_it_is_told(self):
        """Case and pattern have variables of the same numbers; the case is the one, so its variables come first."""
        table = ((nxt(0), 1), (0, nxt(1)), (0, ZERO))
        case = (1, nxt(0))
        self.assertEqual(meet_of(NUMBERS, BOTH, case, table[0]), (nxt(0), nxt(1)))
        self.assertEqual(chosen_in_evidence(NUMBERS, BOTH, table, case, 0), ("never", ("by", 1)))
        # With a tree of splits: at a variable of the meet, which neither the case nor the pattern has.
        table = ((nxt(0), 1), (0, nxt(ZERO)), (0, nxt(nxt(1))))
        self.assertEqual(chosen_in_evidence(NUMBERS, BOTH, table, (0, nxt(7)), 0),
                         ("never", ("split", 1, (("by", 1), ("by", 2)))))
        self.assertIs(accepts_chosen_in(NUMBERS, BOTH, table, (0, nxt(7)), 0,
                                        ("never", ("split", 7, (("by", 1), ("by", 2))))), False)

    def test_meets_of_60_and_61_places(self):
        for many in (60, 61):
            case, pattern = meeting_in(many)
            self.assertEqual(told_or_word(meet_of, TYPES, SIX, case, pattern) == "terms", many == 61)
            table = (pattern, case)
            right = ("never", ("by", 1))
            told = told_or_word(chosen_in_evidence, TYPES, SIX, table, case, 0)
            self.assertEqual(told, right if many == 60 else "terms")
            self.assertEqual(told_or_word(chosen_in, TYPES, SIX, table, case), (1,) if many == 60 else "terms")
            self.assertIs(accepts_chosen_in(TYPES, SIX, table, case, 0, right), many == 60)
            self.assertIs(accepts_chosen_in(TYPES, SIX, table, case, 0, ("apart",)), False)
            # Of an earlier number the error comes first; a later one is not reached.
            self.assertEqual(chosen_in_evidence(TYPES, SIX, table, case, 1)[0], "chosen")
            # Values are accepted though the meet is large.
            values = plain_cases.put(plain_cases.put(meet_of(TYPES, SIX, *meeting_in(60)), {}),
                                     {0: INT, 1: chain("ptr", many - 60, INT)})
            self.assertIs(accepts_chosen_in(TYPES, SIX, (pattern,), case, 0, ("chosen", values)), True)

    def test_told_values_of_400_and_401_places(self):
        for wraps in (1, 2):
            signature, kinds, table = great_value(wraps)
            told = told_or_word(chosen_in_evidence, signature, kinds, table, (0, 1), 0)
            self.assertEqual(told if wraps == 2 else told[0], "value" if wraps == 2 else "chosen")
            self.assertIn(0, chosen_in(signature, kinds, table, (0, 1)))
            if wraps == 1:
                self.assertEqual(max(plain.places(value) for value in told[1]), 400)

    def test_trees_of_300_and_301_leaves(self):
        for special, word in ((SPECIAL, None), (MORE_SPECIAL, "cases")):
            signature, kinds, table = boxed_pigeons(special)
            told = told_or_word(chosen_in_evidence, signature, kinds, table[1:], table[0], 0)
            self.assertEqual(told if word else told[0], word or "never")
            if word:
                too_large(self, word, chosen_in, signature, kinds, table[1:], table[0])
            else:
                self.assertNotIn(0, chosen_in(signature, kinds, table[1:], table[0]))

    def test_trees_of_300_and_301_leaves_are_judged(self):
        table = ((nxt(0), 1), (0, nxt(1)))
        for many, right in ((1, True), (2, True), (300, True), (301, False), (5000, False)):
            value = ("never", relabelled(split_tree(many), 1))
            self.assertIs(accepts_chosen_in(NUMBERS, BOTH, table, (0, nxt(7)), 0, value), right)

    def test_whatever_is_judged(self):
        table = ((ptr(0), 1), (0, ptr(1)))
        for case, number in (((0, 1), 0), ((ptr(0), ptr(0)), 1), ((INT, 0), 0)):
            for value in (*NOTHINGS, *deep_things()):
                for evidence in (value, ("chosen", value), ("never", value), ("apart", value), (value, 0),
                                 ("chosen", (value, value)),
                                 ("never", ("by", (value,))), ("never", ("split", 0, value)), (value,)):
                    self.assertIs(accepts_chosen_in(TYPES, BOTH, table, case, number, evidence), False)


def relabelled(tree, number):
    """The tree with another number at its leaves."""
    labels = []
    while tree[0] == "split":
        labels.append(tree[1])
        tree = tree[2][1]
    tree = ("by", number)
    for label in labels[::-1]:
        tree = ("split", label if label == 0 else label + 1, (("by", number), tree))
    return tree


def shared_meet(many):
    """Two tables with a lone pattern that is settled; it meets the case in as many places."""
    one, lone = meeting_in(many)
    other = (0, ptr(1), 2, 3, 4, 5)
    return (lone, one, other), (one, other), one


def deeper_meet(many):
    """The same, where only the meet of that meet and a common pattern has as many places."""
    one, lone = meeting_in(many)
    case = (0, 1, 2, 3, 4, ptr(5))
    common = (case, (ptr(0), 1, 2, 3, 4, 5), one)
    return (lone, *common), common, case


class Points139To146(unittest.TestCase):
    def test_told_and_judged_as_the_points_read(self):
        words = {"alike": 0, "unlike": 0}
        items = pairs = 0
        for dice, signature, kinds, table, case, finite in some_questions(420, 146):
            other = near_table(signature, kinds, table, dice)
            if dice.random() < 0.5:
                table, other = settled_pair(signature, kinds, table, dice)
            right = plain_views.told_alike_in(signature, kinds, table, other, case, finite)
            told = told_or_word(alike_in_evidence, signature, kinds, table, other, case)
            self.assertEqual(told, right)
            if isinstance(told, str):
                continue
            words[told[0]] += 1
            self.assertIs(alike_in(signature, kinds, table, other, case), told[0] == "alike")
            self.assertIs(accepts_alike_in(signature, kinds, table, other, case, told), True)
            if told[0] == "alike":
                items += len(told[1]) + len(told[2])
                pairs += sum(len(item[3]) for row in told[1:] for item in row)
            for value in (*much_changed(told, dice, 8), ("alike", (), ()), ("alike", *told[2:0:-1])):
                accepted = accepts_alike_in(signature, kinds, table, other, case, value)
                self.assertIs(accepted, plain_views.accepts_alike_in(signature, kinds, table, other, case, value))
                self.assertTrue(not accepted or value[0] == told[0])
        self.assertGreater(min(words.values()), 100)
        self.assertGreater(items, 60)
        self.assertGreater(pairs, 50)

    def test_alike_in_a_case_means_at_all_values_that_it_matches(self):
        """Points 139 and 142."""
        many = 0
        for dice, signature, kinds, table, case, _ in some_questions(250, 139):
            other = near_table(signature, kinds, table, dice)
            if dice.random() < 0.5:
                table, other = settled_pair(signature, kinds, table, dice)
            told = told_or_word(alike_in_evidence, signature, kinds, table, other, case)
            if isinstance(told, str):
                continue
            if told[0] == "unlike":
                self.assertIsNotNone(plain_cases.match(case, told[1]))
                self.assertEqual(told[2], choice_of(signature, kinds, table, told[1]))
                self.assertEqual(told[3], choice_of(signature, kinds, other, told[1]))
                self.assertNotEqual(plain_views.outcome(table, told[1]), plain_views.outcome(other, told[1]))
                continue
            for values in plain_views.small_values(signature, kinds, case):
                many += 1
                self.assertEqual(plain_views.outcome(table, values), plain_views.outcome(other, values))
        self.assertGreater(many, 1000)

    def test_tables_in_another_order(self):
        """Where the answers are "two" with different patterns named, they are alike all the same."""
        one = ((ptr(0), 1), (0, ptr(1)), (0, 0))
        for other in itertools.permutations(one):
            self.assertEqual(alike_in_evidence(TYPES, BOTH, one, other, (0, 1)), ("alike", (), ()))
            self.assertIs(alike_in(TYPES, BOTH, one, other, (0, 1)), True)
        values = (ptr(INT), ptr(INT))
        other = (one[2], one[0], one[1])
        self.assertEqual(choice_of(TYPES, BOTH, one, values), choice_of(TYPES, BOTH, other, values))
        self.assertIs(accepts_alike_in(TYPES, BOTH, one, other, (0, 1), ("unlike", values, ("two", 0, 1), ("two", 0, 1))), False)
        # With a pattern ahead that does not match there, other numbers are named.
        more = ((INT, 0), *one)
        self.assertEqual((choice_of(TYPES, BOTH, one, values), choice_of(TYPES, BOTH, more, values)),
                         (("two", 0, 1), ("two", 1, 2)))
        self.assertIs(alike_in(TYPES, BOTH, one, more, (ptr(0), 1)), True)
        value = ("unlike", values, ("two", 0, 1), ("two", 1, 2))
        self.assertIs(accepts_alike_in(TYPES, BOTH, one, more, (ptr(0), 1), value), False)

    def test_lone_patterns_that_do_not_meet_the_case(self):
        one, other = ((ptr(0), 1), (INT, 0)), ((INT, 0), (("pair", 0, 1), 2))
        self.assertEqual(alike_in_evidence(TYPES, BOTH, one, other, (INT, 5)), ("alike", (), ()))
        self.assertEqual(alike_in_evidence(TYPES, BOTH, one, other, (0, 1)),
                         ("unlike", (ptr(("#", 0)), ("#", 1)), 0, "none"))
        self.assertEqual(alike_in_evidence(TYPES, BOTH, one, other, (("pair", 1, 0), 0))[2:], ("none", 1))

    def test_empty_tables(self):
        self.assertEqual(alike_in_evidence(TYPES, BOTH, (), (), (0, 0)), ("alike", (), ()))
        self.assertEqual(alike_in_evidence(TYPES, BOTH, (), ((0, 1),), (0, 0)), ("unlike", (("#", 0), ("#", 0)), "none", 0))
        self.assertEqual(alike_in_evidence(TYPES, BOTH, ((0, 1),), (), (0, 0)), ("unlike", (("#", 0), ("#", 0)), 0, "none"))

    def test_each_condition_alone(self):
        """Point 141: of a lone pattern each of the three is the first that fails."""
        case = (0, 1)
        # The first one: its table chooses it.
        one, other = ((0, 1), (YES, 0)), ((0, 1),)
        self.assertEqual(alike_in_evidence(ANSWERS, BOTH, one, other, case), ("unlike", (YES, NO), 1, 0))
        # The second one: it is never chosen, but the opposite table has nothing where it matches.
        one, other = ((0, 1), (NO, 0), (YES, 0)), ((NO, 0),)
        self.assertEqual(alike_in_evidence(ANSWERS, BOTH, one, other, case), ("unlike", (YES, NO), 2, "none"))
        one, other = ((0, 1), (NO, 0), (YES, 0)), ((YES, 0), (NO, 0))
        self.assertEqual(alike_in_evidence(ANSWERS, BOTH, one, other, case)[0], "alike")
        one, other = (THREE[0], THREE[1], THREE[2]), (THREE[1],)
        self.assertEqual(alike_in_evidence(ANSWERS, BOTH, one, other, case), ("unlike", (YES, YES), ("two", 0, 2), "none"))
        # The third one, with the example of point 143.
        one, other = THREE, THREE[1:]
        told = alike_in_evidence(ANSWERS, BOTH, one, other, case)
        self.assertEqual(told, ("unlike", (NO, YES), ("two", 0, 1), 0))
        self.assertNotIn(0, chosen_in(ANSWERS, BOTH, one, case))

    def test_the_third_condition_goes_by_ascending_numbers_of_the_opposite_table(self):
        one = THREE
        for other, values, answer in ((THREE[1:], (NO, YES), 0), ((THREE[2], THREE[1]), (YES, YES), 0)):
            self.assertEqual(alike_in_evidence(ANSWERS, BOTH, one, other, (0, 1))[1], values)
            self.assertEqual(alike_in_evidence(ANSWERS, BOTH, one, other, (0, 1))[3], answer)

    def test_the_order_of_the_lone_patterns(self):
        """Those of the one by their numbers, then those of the other."""
        a, b, c, d = (ZERO, 0), (nxt(ZERO), 0), (nxt(nxt(ZERO)), 0), (nxt(nxt(nxt(0))), 1)
        for one, other, first in (((a, b), (c, d), a), ((b, a), (c, d), b), ((), (d, c), d), ((), (c, d), c),
                                  ((c,), (b, a, c), b)):
            word, values, *_ = alike_in_evidence(NUMBERS, BOTH, one, other, (0, 1))
            self.assertEqual(word, "unlike")
            self.assertIsNotNone(plain_cases.match(first, values))

    def test_evidence_of_somebody_else(self):
        one, other = ((0, 1), (NO, 0), (YES, 0)), ((YES, 0), (NO, 0))
        told = alike_in_evidence(ANSWERS, BOTH, one, other, (0, 1))
        tree = ("split", 0, (("by", 1), ("by", 2)))
        back = ("split", 0, (("by", 1), ("by", 0)))
        self.assertEqual(told, ("alike", ((0, tree, back, ()),), ()))
        wide = ("split", 0, (("by", 1), ("split", 1, (("by", 2), ("by", 2)))))
        wide_back = ("split", 1, (("split", 0, (("by", 1), ("by", 0))), back))
        for items, right in ((((0, tree, back, ()),), True), (((0, wide, back, ()),), True), (((0, tree, wide_back, ()),), True),
                             (((False, tree, back, ()),), False), (((0, back, back, ()),), False),
                             (((0, tree, tree, ()),), False),
                             (((0, tree, back),), False), (((0, tree, back, []),), False), ([(0, tree, back, ())], False),
                             (((0, tree, back, ((0, ("by", 1)),)),), False), (((1, tree, back, ()),), False), ((), False),
                             (((0, tree, back, ()), (0, tree, back, ())), False), (([0, tree, back, ()],), False)):
            self.assertIs(accepts_alike_in(ANSWERS, BOTH, one, other, (0, 1), ("alike", items, ())), right)
            self.assertIs(accepts_alike_in(ANSWERS, BOTH, other, one, (0, 1), ("alike", (), items)), right)
            self.assertIs(accepts_alike_in(ANSWERS, BOTH, one, other, (0, 1), ("alike", (), items)), False)
        self.assertIs(accepts_alike_in(ANSWERS, BOTH, one, other, (0, 1), [*told]), False)

    def test_common_patterns_of_somebody_else(self):
        one, other, case = shared_meet(60)
        told = alike_in_evidence(TYPES, SIX, one, other, case)
        pairs = ((0, ("by", 1)), (1, ("by", 0)))
        self.assertEqual(told, ("alike", ((0, ("by", 1), ("by", 0), pairs),), ()))
        for given, right in ((pairs, True), (pairs[::-1], False), (pairs[:1], False),
                             (((0, ("by", 1)), (True, ("by", 0))), False),
                             (((0, ("by", 0)), (1, ("by", 0))), False), ((pairs[0], pairs[0]), False), (list(pairs), False),
                             ((pairs[0], (1, ("by", 0), 0)), False), (([0, ("by", 1)], pairs[1]), False), (None, False),
                             ((pairs[0], (1, ("by", 1))), False), ((*pairs, (2, ("by", 0))), False)):
            value = ("alike", ((0, ("by", 1), ("by", 0), given),), ())
            self.assertIs(accepts_alike_in(TYPES, SIX, one, other, case, value), right)
        # Either leaf of the second tree is right.
        value = ("alike", ((0, ("by", 2), ("by", 1), pairs),), ())
        self.assertIs(accepts_alike_in(TYPES, SIX, one, other, case, value), True)

    def test_values_of_somebody_else(self):
        one, other = ((0, 1), (YES, 0), (0, YES)), ((0, 1), (YES, 0))
        star = ("unlike", (NO, YES), 2, 0)
        for value, right in ((star, True), (("unlike", (YES, YES), ("two", 1, 2), 1), True), (("unlike", (NO, NO), 0, 0), False),
                             (("unlike", (NO, YES), 2, 1), False), (("unlike", (NO, YES), 0, 2), False),
                             (("unlike", (NO, YES)), False),
                             (("unlike", (YES, YES), ("two", 2, 1), 1), False), (("unlike", (YES, YES), ["two", 1, 2], 1), False),
                             (("unlike", (YES, YES), ("two", True, 2), 1), False),
                             (("unlike", (YES, YES), ("two", 1, 2), True), False),
                             (("unlike", (YES, YES), ("two", 1, 2, 0), 1), False), (("unlike", (YES, YES), "two", 1), False),
                             (("unlike", (NO, YES), 2, False), False), (("unlike", [NO, YES], 2, 0), False),
                             (("unlike", (YES, NO), 1, 1), False), (("unlike", (0, YES), 2, 0), False),
                             (("unlike", (YES,), 2, 0), False)):
            self.assertIs(accepts_alike_in(ANSWERS, BOTH, one, other, (0, 1), value), right)
        # Outside of the case.
        self.assertIs(accepts_alike_in(ANSWERS, BOTH, one, other, (0, YES), star), True)
        self.assertIs(accepts_alike_in(ANSWERS, BOTH, one, other, (YES, 0), star), False)
        self.assertIs(accepts_alike_in(ANSWERS, BOTH, one, other, (0, 0), star), False)
        self.assertIs(accepts_alike_in(ANSWERS, BOTH, ((0, 1),), (), (0, 1), ("unlike", (NO, NO), 0, "none")), True)
        self.assertIs(accepts_alike_in(ANSWERS, BOTH, ((0, 1),), (), (0, 1), ("unlike", (NO, NO), 0, ("none",))), False)
        self.assertIs(accepts_alike_in(ANSWERS, BOTH, ((0, 1),), (), (0, 1), ("unlike", (NO, NO), 0, None)), False)

    def test_meets_of_60_and_61_places(self):
        for make in (shared_meet, deeper_meet):
            right = alike_in_evidence(TYPES, SIX, *make(60))
            self.assertEqual(right[0], "alike")
            self.assertIs(alike_in(TYPES, SIX, *make(60)), True)
            self.assertIs(accepts_alike_in(TYPES, SIX, *make(60), right), True)
            too_large(self, "terms", alike_in_evidence, TYPES, SIX, *make(61))
            too_large(self, "terms", alike_in, TYPES, SIX, *make(61))
            self.assertIs(accepts_alike_in(TYPES, SIX, *make(61), right), False)
            one, other, case = make(61)
            too_large(self, "terms", alike_in, TYPES, SIX, other, one, case)

    def test_the_one_that_ends_it_comes_before_a_large_meet(self):
        one, other, case = shared_meet(61)
        first = plain_cases.numbered(tuple(ptr(0) for _ in range(5)) + (case[5],))
        told = alike_in_evidence(TYPES, SIX, (first, *one), other, case)
        self.assertEqual(told[0], "unlike")
        too_large(self, "terms", alike_in_evidence, TYPES, SIX, (*one, first), other, case)
        self.assertIsNotNone(plain_cases.match(first, told[1]))

    def test_told_values_of_400_and_401_places(self):
        for wraps in (1, 2):
            signature, kinds, table = great_value(wraps)
            for one, other in ((table, table[1:]), (table[1:], table)):
                told = told_or_word(alike_in_evidence, signature, kinds, one, other, (0, 1))
                self.assertEqual(told if wraps == 2 else told[0], "value" if wraps == 2 else "unlike")
                self.assertIs(alike_in(signature, kinds, one, other, (0, 1)), False)

    def test_trees_of_300_and_301_leaves(self):
        for special, word in ((SPECIAL, None), (MORE_SPECIAL, "cases")):
            signature, kinds, table = boxed_pigeons(special)
            for one, other in ((table[1:], table[2:]), (table[2:], table[1:])):
                told = told_or_word(alike_in_evidence, signature, kinds, one, other, table[0])
                self.assertEqual(told if word else told[0], word or "alike")
                self.assertEqual(told_or_word(alike_in, signature, kinds, one, other, table[0]), word or True)
                if not word:
                    self.assertIs(accepts_alike_in(signature, kinds, one, other, table[0], told), True)

    def test_whatever_is_judged(self):
        one, other = ((ptr(0), 1), (0, ptr(1))), ((0, ptr(1)), (ptr(0), ptr(1)))
        for case in ((0, 1), (INT, 0), (ptr(0), ptr(1))):
            empty = ("alike", (), ())
            for value in (*NOTHINGS, *deep_things()):
                for evidence in (value, ("alike", value, value), ("alike", (value,), ()), ("unlike", value, 0, 1),
                                 (value, (), ()),
                                 ("unlike", (ptr(INT), ptr(INT)), value, 2), ("unlike", (ptr(INT), INT), 0, value),
                                 ("alike", ((0, value, value, value),), ()), ("alike", ((value, value, value, ()),), value),
                                 ("unlike", (value, value), value, value)):
                    accepted = accepts_alike_in(TYPES, BOTH, one, other, case, evidence)
                    right = case == (INT, 0) and evidence == empty
                    self.assertIs(accepted, right)


class Points143To145(unittest.TestCase):
    def test_clear_tables(self):
        """Point 143: of clear tables the first condition alone decides, and there is a least view."""
        many = 0
        for dice, signature, kinds, table, case, _ in some_questions(260, 143):
            table = refilled(signature, kinds, table, dice, 1.0)
            if told_or_word(is_clear, signature, kinds, table) is not True:
                continue
            numbers = told_or_word(chosen_in, signature, kinds, table, case)
            if isinstance(numbers, str):
                continue
            for _ in range(4):
                view = tuple(sorted(dice.sample(range(len(table)), dice.randint(0, len(table)))))
                part = part_of(signature, kinds, table, view)
                right = all(number in view for number in numbers)
                self.assertIs(alike_in(signature, kinds, table, part, case), right)
                self.assertIs(alike_in(signature, kinds, part, table, case), right)
                many += 1
            other = near_table(signature, kinds, table, dice)
            if told_or_word(is_clear, signature, kinds, other) is True:
                far = chosen_in(signature, kinds, other, case)
                unlike = [table[n] for n in numbers if table[n] not in other] + [other[n] for n in far if other[n] not in table]
                self.assertIs(alike_in(signature, kinds, table, other, case), not unlike)
        self.assertGreater(many, 200)

    def test_without_clear_tables_it_need_not_be_so(self):
        self.assertIs(is_clear(ANSWERS, BOTH, THREE), False)
        self.assertEqual(chosen_in(ANSWERS, BOTH, THREE, (0, 1)), (1, 2))
        part = part_of(ANSWERS, BOTH, THREE, (1, 2))
        self.assertIs(alike_in(ANSWERS, BOTH, THREE, part, (0, 1)), False)
        self.assertEqual(choice_of(ANSWERS, BOTH, part, (NO, YES)), 0)
        self.assertEqual(choice_of(ANSWERS, BOTH, THREE, (NO, YES)), ("two", 0, 1))

    def test_cases_below_and_parts_of_splits(self):
        """Point 144."""
        many = 0
        for dice, signature, kinds, table, case, _ in some_questions(200, 144):
            other = near_table(signature, kinds, table, dice)
            told = told_or_word(alike_in, signature, kinds, table, other, case)
            if isinstance(told, str):
                continue
            standing = plain_cases.kinds_of_variables(signature, kinds, case)
            closed = [variable for variable, kind in standing.items() if not plain.is_open(signature, kind)]
            below = plain_cases.put(case, {variable: some_case(signature, (kind,), dice, 3, lambda n, at=at: 50 + 9 * at + n)[0]
                                           for at, (variable, kind) in enumerate(standing.items()) if dice.random() < 0.5})
            if told and plain_cases.size(below) <= 60:
                self.assertIn(told_or_word(alike_in, signature, kinds, table, other, below), (True, "terms", "cases"))
            if closed:
                parts = split_case(signature, kinds, case, dice.choice(closed))
                found = [told_or_word(alike_in, signature, kinds, table, other, part) for part in parts]
                if all(isinstance(word, bool) for word in found):
                    self.assertIs(all(found), told)
                    many += 1
        self.assertGreater(many, 60)

    def test_order_numbers_of_variables_and_further_constructors_change_nothing(self):
        """Point 144."""
        for dice, signature, kinds, table, case, _ in some_questions(150, 1440):
            other = near_table(signature, kinds, table, dice)
            told = told_or_word(alike_in, signature, kinds, table, other, case)
            if isinstance(told, str):
                continue
            self.assertIs(alike_in(signature, kinds, other, table, case), told)
            shuffled = tuple(dice.sample(table, len(table)))
            self.assertIs(told_or_word(alike_in, signature, kinds, shuffled, other, case) in (told, "cases"), True)
            renamed = plain_cases.put(case, {variable: 100 - variable for variable in plain_cases.variables_in(case)})
            self.assertIs(alike_in(signature, kinds, table, other, renamed), told)
            opened = [kind for kind in range(len(signature)) if plain.is_open(signature, kind) and len(signature[kind][1]) < 4]
            if opened:
                more = with_constructor(signature, dice.choice(opened), ("further", (dice.randrange(len(signature)),)))
                self.assertIs(alike_in(more, kinds, table, other, case), told)
                evidence = told_or_word(alike_in_evidence, signature, kinds, table, other, case)
                self.assertEqual(told_or_word(alike_in_evidence, more, kinds, table, other, case), evidence)

    def test_what_others_define(self):
        """Point 145."""
        many = 0
        for dice, signature, kinds, table, case, _ in some_questions(300, 145):
            table = refilled(signature, kinds, table, dice, 1.0)[:8]
            if told_or_word(is_clear, signature, kinds, table) is not True:
                continue
            other = near_table(signature, kinds, table, dice)[:8]
            if told_or_word(alike_in, signature, kinds, table, other, case) is not True:
                continue
            further = tuple(pattern for pattern in some_table(signature, kinds, dice, 2, 3) if pattern not in (*table, *other))
            told = told_or_word(alike_in, signature, kinds, (*table, *further), (*other, *further), case)
            self.assertIn(told, (True, "terms", "cases"))
            many += len(further) > 0
        self.assertGreater(many, 60)

    def test_what_others_define_where_the_table_is_not_clear(self):
        """Both answer "two", and part when a further pattern is below all that match in one of them only."""
        one = ((0, ptr(1), 2), (ptr(0), 1, 2), (ptr(0), ptr(1), ptr(2)))
        other = ((0, ptr(1), 2), (ptr(0), 1, 2))
        case = (ptr(0), ptr(1), ptr(2))
        kinds = (0, 0, 0)
        self.assertIs(alike_in(TYPES, kinds, one, other, case), False)
        one = ((0, ptr(1), 2), (ptr(0), 1, 2), (0, 1, ptr(2)))
        self.assertIs(alike_in(TYPES, kinds, one, other, case), True)
        further = ((ptr(0), ptr(1), 2),)
        self.assertIs(alike_in(TYPES, kinds, one + further, other + further, case), False)


class Point149(unittest.TestCase):
    def test_the_first_wrong_argument_is_named(self):
        one, case = ((ptr(0), 1),), (0, 1)
        wrong_signatures, wrong_kinds = (None, (), [], True, 0), (None, (), [0], (1,), (True,), (0,) * 7)
        wrong_tables = (None, [], 0, (None,), ((0,),), ((1, 0),), one * 2, ([ptr(0), 1],), ((True, 1),), ((0, 2),))
        wrong_cases = (None, [0, 1], (0,), (0, 1, 2), (True, 1), (0, ("box", 1)), (("#", 0), 0), (0, chain("ptr", 59, 1)), "01")
        for wrong in wrong_signatures:
            bad(self, "signature", part_of, wrong, None, None, None)
            bad(self, "signature", chosen_in, wrong, None, None, None)
            bad(self, "signature", chosen_in_evidence, wrong, None, None, None, None)
            bad(self, "signature", accepts_chosen_in, wrong, None, None, None, None, None)
            bad(self, "signature", alike_in, wrong, None, None, None, None)
            bad(self, "signature", alike_in_evidence, wrong, None, None, None, None)
            bad(self, "signature", accepts_alike_in, wrong, None, None, None, None, None)
        for wrong in wrong_kinds:
            bad(self, "kinds", part_of, TYPES, wrong, None, None)
            bad(self, "kinds", chosen_in, TYPES, wrong, None, None)
            bad(self, "kinds", chosen_in_evidence, TYPES, wrong, None, None, None)
            bad(self, "kinds", accepts_chosen_in, TYPES, wrong, None, None, None, None)
            bad(self, "kinds", alike_in, TYPES, wrong, None, None, None)
            bad(self, "kinds", alike_in_evidence, TYPES, wrong, None, None, None)
            bad(self, "kinds", accepts_alike_in, TYPES, wrong, None, None, None, None)
        for wrong in wrong_tables:
            bad(self, "table", part_of, TYPES, BOTH, wrong, None)
            bad(self, "table", chosen_in, TYPES, BOTH, wrong, None)
            bad(self, "table", chosen_in_evidence, TYPES, BOTH, wrong, None, None)
            bad(self, "table", accepts_chosen_in, TYPES, BOTH, wrong, None, None, None)
            for function in (alike_in, alike_in_evidence):
                bad(self, "one", function, TYPES, BOTH, wrong, None, None)
                bad(self, "other", function, TYPES, BOTH, one, wrong, None)
            bad(self, "one", accepts_alike_in, TYPES, BOTH, wrong, None, None, None)
            bad(self, "other", accepts_alike_in, TYPES, BOTH, one, wrong, None, None)
        for wrong in wrong_cases:
            bad(self, "case", chosen_in, TYPES, BOTH, one, wrong)
            bad(self, "case", chosen_in_evidence, TYPES, BOTH, one, wrong, None)
            bad(self, "case", accepts_chosen_in, TYPES, BOTH, one, wrong, None, None)
            bad(self, "case", alike_in, TYPES, BOTH, one, one, wrong)
            bad(self, "case", alike_in_evidence, TYPES, BOTH, one, one, wrong)
            bad(self, "case", accepts_alike_in, TYPES, BOTH, one, one, wrong, None)
        for wrong in (None, True, False, -1, 1, "0", (0,), []):
            bad(self, "number", chosen_in_evidence, TYPES, BOTH, one, case, wrong)
            bad(self, "number", accepts_chosen_in, TYPES, BOTH, one, case, wrong, None)
        bad(self, "number", chosen_in_evidence, TYPES, BOTH, (), case, 0)

    def test_tables_of_12_and_13_patterns(self):
        rows = tuple((chain("ptr", many, INT), 0) for many in range(13))
        self.assertEqual(part_of(TYPES, BOTH, rows[:12], (11,)), rows[11:12])
        self.assertEqual(chosen_in(TYPES, BOTH, rows[:12], (0, 1)), tuple(range(12)))
        self.assertIs(alike_in(TYPES, BOTH, rows[:12], rows[1:], (INT, 1)), False)
        self.assertIs(alike_in(TYPES, BOTH, rows[1:12], rows[1:], (INT, 1)), True)
        bad(self, "table", part_of, TYPES, BOTH, rows, (11,))
        bad(self, "table", chosen_in, TYPES, BOTH, rows, (0, 1))
        bad(self, "one", alike_in, TYPES, BOTH, rows, rows[1:], (0, 1))
        bad(self, "other", alike_in, TYPES, BOTH, rows[1:], rows, (0, 1))

    def test_patterns_of_16_and_17_places_and_cases_of_60_and_61(self):
        for many, right in ((14, True), (15, False)):
            table = ((chain("ptr", many, INT), 0),)
            if right:
                self.assertEqual(chosen_in(TYPES, BOTH, table, (0, 1)), (0,))
                self.assertIs(alike_in(TYPES, BOTH, table, (), (0, 1)), False)
            else:
                bad(self, "table", chosen_in, TYPES, BOTH, table, (0, 1))
                bad(self, "one", alike_in, TYPES, BOTH, table, (), (0, 1))
                bad(self, "other", alike_in, TYPES, BOTH, (), table, (0, 1))
        table = ((ptr(0), 1),)
        self.assertEqual(chosen_in(TYPES, BOTH, table, (INT, chain("ptr", 58, 1))), ())
        self.assertIs(alike_in(TYPES, BOTH, table, (), (INT, chain("ptr", 58, 1))), True)
        bad(self, "case", chosen_in, TYPES, BOTH, table, (INT, chain("ptr", 59, 1)))
        bad(self, "case", alike_in, TYPES, BOTH, table, (), (INT, chain("ptr", 59, 1)))

    def test_wrong_arguments_come_before_too_large(self):
        case, pattern = meeting_in(61)
        bad(self, "number", chosen_in_evidence, TYPES, SIX, (pattern,), case, 1)
        too_large(self, "terms", chosen_in_evidence, TYPES, SIX, (pattern,), case, 0)

    def test_nothing_is_modified_and_equal_calls_are_equal(self):
        """Point 2."""
        for dice, signature, kinds, table, case, _ in some_questions(20, 2):
            other = near_table(signature, kinds, table, dice)
            self.assertEqual(told_or_word(alike_in_evidence, signature, kinds, table, other, case),
                             told_or_word(alike_in_evidence, signature, kinds, table, other, case))
            self.assertEqual(told_or_word(chosen_in, signature, kinds, table, case),
                             told_or_word(chosen_in, signature, kinds, table, case))

    def test_values_stay_apart_from_strangers_of_the_case(self):
        """A case has no strangers, but its told values can: with kinds of all sorts."""
        table = ((("leaf", 0),), (("fork", 0, 1),))
        self.assertEqual(alike_in_evidence(MIXED, (0,), table, table[1:], (0,)), ("unlike", (("leaf", ("#", 0)),), 0, "none"))


if __name__ == "__main__":
    unittest.main()
