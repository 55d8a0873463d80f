"""Points 75 to 85: quarrels, and how many further patterns make a table clear."""

import itertools
import random
import unittest

from closestfit.choice import choice_of, matching
from closestfit.clear import is_clear
from closestfit.closing import accepts_count, accepts_quarrel, count_evidence, needed, quarrel_evidence, quarrels
from closestfit.kinds import is_finite
from tests import plain, plain_cases, plain_tables
from tests.makers import crossing_table, much_changed, some_table
from tests.samples import NOTHINGS, NUMBERS, TYPES, bad, chain, deep_things, some_signatures, too_large
from tests.tables import SIX, meeting_in, split_tree
from tests.test_clear import refilled, some_tables, told_or_word

ZERO = ("zero",)
INT = ("int",)
BOTH = (0, 0)


def nxt(term):
    return ("next", term)


def ptr(term):
    return ("ptr", term)


STAR, OTHER = ("#", 0), ("#", 1)
# Point 85.
FIRST = ((ptr(0), 1), (0, ptr(1)), (0, 0))
SECOND = ((nxt(0), 1), (0, nxt(1)), (nxt(ZERO), nxt(0)), (nxt(nxt(0)), nxt(1)))


def some_small_tables(many, seed, most=5):
    """Quintuples as those of some_tables: some of these, and more whose patterns meet each other."""
    for dice, signature, kinds, table, finite in some_tables(many, seed):
        if dice.random() < 0.75:
            closed = [kind for kind in range(len(signature)) if not plain.is_open(signature, kind)]
            kinds = tuple(dice.choice(closed or [0]) for _ in range(dice.randint(2, 3))) if dice.random() < 0.7 else kinds
            table = crossing_table(signature, kinds, dice, dice.randint(2, 6))
            table = refilled(signature, kinds, table, dice, 0.2)
        yield dice, signature, kinds, table[:dice.randint(most - 2, most)], finite


def wide_quarrel(specials):
    """The first two patterns meet in a case whose tree has many leaves: with one special pattern 163, with two too many."""
    signature = (("closed", (("la", ()), ("lb", ()))),
                 ("closed", (("wa", (1,)), ("wb", (1,)), ("wc", (1,)), ("wn", ()))), ("closed", (("vv", (1,)),)))
    long = chain("wa", 8, ("wn",))
    rows = [(("vv", 0), 1, 2, 3, 4, 5), (0, ("vv", 1), 2, 3, 4, 5)]
    rows += [(("vv", 0), ("vv", 1), 2, 2, 3, 4), (("vv", 0), ("vv", 1), 2, 3, 2, 4), (("vv", 0), ("vv", 1), 2, 3, 3, 4)]
    rows += [(("vv", 0), ("vv", 1), 2, 3, 4, long), (("vv", 0), ("vv", long), 1, 2, 3, 4)][:specials]
    return signature, (2, 2, 0, 0, 0, 1), tuple(rows)


class Points75To77(unittest.TestCase):
    def test_told_and_judged_as_the_points_read(self):
        words = {"apart": 0, "old": 0, "never": 0, "quarrel": 0}
        for dice, signature, kinds, table, finite in some_small_tables(250, 175):
            for numbers in plain_tables.all_tuples(table, 2):
                right = plain_tables.told_quarrel(signature, kinds, table, numbers, finite)
                told = told_or_word(quarrel_evidence, signature, kinds, table, numbers)
                self.assertEqual(told, right)
                if isinstance(told, str):
                    continue
                words[told[0]] += 1
                self.assertIs(accepts_quarrel(signature, kinds, table, numbers, told), True)
                self.assertIs(plain_tables.accepts_quarrel(signature, kinds, table, numbers, told), True)
                others = [("apart",), ("old", 0), ("old", len(table) - 1), ("never", ("by", 0)), ("never", ("by", len(table) - 1))]
                for value in (*much_changed(told, dice, 4), *others, ("quarrel", *told[1:]), ("never", *told[1:])):
                    accepted = accepts_quarrel(signature, kinds, table, numbers, value)
                    self.assertIs(accepted, plain_tables.accepts_quarrel(signature, kinds, table, numbers, value))
                    self.assertTrue(not accepted or value[0] == told[0])
                if told[0] == "quarrel":
                    self.assertEqual(matching(signature, kinds, table, told[1]), numbers)
                    self.assertEqual(choice_of(signature, kinds, table, told[1])[0], "two")
        self.assertGreater(min(words.values()), 60)

    def test_quarrels_are_the_matching_numbers_where_the_answer_is_two(self):
        """At all small values: each is told; and each that is told is one."""
        many = 0
        for _, signature, kinds, table, _ in some_small_tables(200, 75):
            told = told_or_word(quarrels, signature, kinds, table)
            if isinstance(told, str):
                continue
            self.assertEqual(told, tuple(sorted(set(told))))
            for values in itertools.product(*[plain.ordered_values(signature, kind, 3, 4)[:8] for kind in kinds]):
                if isinstance(plain_cases.answer(table, values), tuple):
                    self.assertIn(plain_cases.matching(table, values), told)
                    many += 1
            self.assertIs(is_clear(signature, kinds, table), told == ())
        self.assertGreater(many, 100)

    def test_meets_of_quarrels(self):
        """Point 76."""
        many = 0
        for _, signature, kinds, table, finite in some_small_tables(250, 76):
            found = plain_tables.quarrels(signature, kinds, table, finite)
            self.assertEqual(told_or_word(quarrels, signature, kinds, table), found)
            if isinstance(found, str):
                self.assertEqual(told_or_word(needed, signature, kinds, table), found)
                continue
            told = needed(signature, kinds, table)
            self.assertEqual(told, tuple(plain_tables.meet_of_several(table, numbers) for numbers in found))
            self.assertEqual(len(set(told)), len(told))
            for numbers, meet in zip(found, told):
                many += 1
                self.assertNotIn(meet, table)
                below = tuple(n for n, pattern in enumerate(table) if plain_cases.is_below(meet, pattern))
                self.assertEqual(below, numbers)
        self.assertGreater(many, 60)

    def test_evidence_of_somebody_else(self):
        by = ("by", 2)
        self.assertIs(accepts_quarrel(NUMBERS, BOTH, SECOND, (0, 1), ("never", ("split", 0, (by, ("by", 3))))), True)
        for tree, right in ((("split", 0, (by, ("split", 2, (("by", 3), ("by", 3))))), True), (by, False), (("by", 0), False),
                            (("split", 0, (by, ("by", 1))), False), (("split", 1, (by, ("by", 3))), False),
                            (("split", 0, (by, ("by", True))), False), ("by", False), (None, False)):
            self.assertIs(accepts_quarrel(NUMBERS, BOTH, SECOND, (0, 1), ("never", tree)), right)
        one, two = nxt(ZERO), nxt(nxt(ZERO))
        for values, right in (((one, one), False), ((two, one), True), ((two, nxt(two)), True), ((ZERO, one), False),
                              ([two, one], False), ((two,), False), ((two, nxt(0)), False), (None, False)):
            self.assertIs(accepts_quarrel(NUMBERS, BOTH, SECOND[:3], (0, 1), ("quarrel", values)), right)
        # At values at which the answer is "two", but other patterns match, or not all of them.
        star = (ptr(STAR), ptr(STAR))
        self.assertIs(accepts_quarrel(TYPES, BOTH, FIRST, (0, 1), ("quarrel", star)), False)
        self.assertIs(accepts_quarrel(TYPES, BOTH, FIRST, (0, 1, 2), ("quarrel", star)), True)
        # Exactly these match, but one of them is below the others.
        self.assertIs(accepts_quarrel(NUMBERS, (0,), ((0,), (nxt(0),)), (0, 1), ("quarrel", (one,))), False)

    def test_old_and_apart(self):
        table = ((nxt(0), 1), (0, nxt(1)), (nxt(0), nxt(1)), (ZERO, 0))
        self.assertEqual(quarrel_evidence(NUMBERS, BOTH, table, (0, 1)), ("old", 2))
        self.assertEqual(quarrel_evidence(NUMBERS, BOTH, table, (0, 2)), ("old", 2))
        self.assertEqual(quarrel_evidence(NUMBERS, BOTH, table, (0, 3)), ("apart",))
        self.assertEqual(quarrel_evidence(NUMBERS, BOTH, table, (0, 1, 3)), ("apart",))
        for numbers, value, right in (((0, 1), ("old", 2), True), ((0, 1), ("old", 0), False), ((0, 1), ("old", 4), False),
                                      ((0, 1), ("old", None), False), ((0, 1), ("old", -2), False), ((0, 1), ("old",), False),
                                      ((0, 1), ("never", ("by", 2)), False), ((0, 1), ("apart",), False),
                                      ((0, 3), ("apart",), True), ((0, 3), ("apart", 0), False), ((0, 3), ["apart"], False),
                                      ((0, 3), ("old", 0), False), ((0, 3), "apart", False), ((0, 3), ("never", ("by", 1)), False)):
            self.assertIs(accepts_quarrel(NUMBERS, BOTH, table, numbers, value), right)
        self.assertIs(accepts_quarrel(NUMBERS, BOTH, table[1:], (0, 1), ("old", True)), False)
        self.assertIs(accepts_quarrel(NUMBERS, BOTH, table[1:], (0, 1), ("old", 1)), True)

    def test_a_meet_that_another_pattern_is_above(self):
        """Then the meet is no quarrel, and the tree is a leaf by the first such pattern."""
        self.assertEqual(quarrel_evidence(TYPES, BOTH, FIRST, (0, 2)), ("never", ("by", 1)))
        self.assertEqual(quarrel_evidence(TYPES, BOTH, FIRST, (0, 1)), ("quarrel", (ptr(STAR), ptr(OTHER))))

    def test_trees_of_300_and_301_leaves_are_judged(self):
        table = ((0, nxt(1)), (nxt(0), 1), (0, 1))
        for many, right in ((1, True), (300, True), (301, False), (5000, False)):
            tree = relabelled(split_tree(many), 2, 0)
            self.assertIs(accepts_quarrel(NUMBERS, BOTH, table, (0, 1), ("never", tree)), right)

    def test_whatever_is_judged(self):
        for table, numbers in ((FIRST, (0, 1)), (FIRST, (0, 2)), (FIRST, (0, 1, 2)), (((INT, 0), (ptr(0), 1)), (0, 1)),
                               (((INT, 0), (0, 1)), (0, 1))):
            for value in (*NOTHINGS, *deep_things()):
                for evidence in (value, (value,), ("apart", value), ("never", value), ("quarrel", value), (value, 0),
                                 ("quarrel", (value, value)), ("never", ("by", (value,))), ("never", ("split", 0, value))):
                    self.assertIs(accepts_quarrel(TYPES, BOTH, table, numbers, evidence), False)
                if value != 0 or isinstance(value, bool):
                    self.assertIs(accepts_quarrel(TYPES, BOTH, table, numbers, ("old", value)), False)


def relabelled(tree, number, shift):
    """The tree that goes down at its last trees, with other leaves, and its variables shifted."""
    variables = []
    while tree[0] == "split":
        variables.append(tree[1] + shift)
        tree = tree[2][1]
    tree = ("by", number)
    for variable in variables[::-1]:
        tree = ("split", variable if variable == shift else variable + 1, (("by", number), tree))
    return tree


class Points78To81(unittest.TestCase):
    def test_told_and_judged_as_the_point_reads(self):
        """Point 80."""
        words = {"enough": 0, "few": 0}
        for dice, signature, kinds, table, finite in some_small_tables(220, 80):
            many = plain_tables.quarrels(signature, kinds, table, finite)
            counts = (0, 1, 300) if isinstance(many, str) else {0, max(0, len(many) - 1), len(many), len(many) + 1}
            for count in sorted(counts):
                right = plain_tables.told_count(signature, kinds, table, count, finite)
                told = told_or_word(count_evidence, signature, kinds, table, count)
                self.assertEqual(told, right)
                if isinstance(told, str):
                    continue
                words[told[0]] += 1
                self.assertEqual(told[0] == "enough", count >= len(many))
                self.assertIs(accepts_count(signature, kinds, table, count, told), True)
                for value in (*much_changed(told, dice, 6), ("enough", told[1]), ("few", told[1])):
                    accepted = accepts_count(signature, kinds, table, count, value)
                    self.assertIs(accepted, plain_tables.accepts_count(signature, kinds, table, count, value))
                    self.assertTrue(not accepted or value[0] == told[0])
        self.assertGreater(min(words.values()), 60)

    def test_a_filled_table_is_clear(self):
        """Points 78 and 79: with the same choice where the answer was not "two", and with none less."""
        many = 0
        for dice, signature, kinds, table, finite in some_small_tables(250, 78, 4):
            told = told_or_word(needed, signature, kinds, table)
            if isinstance(told, str) or len(table) + len(told) > 12 or any(plain_cases.size(row) > 16 for row in told):
                continue
            filled = (*table, *told)
            many += len(told) > 0
            self.assertIs(is_clear(signature, kinds, filled), True)
            found = quarrels(signature, kinds, table)
            for number in range(len(table), len(filled)):
                self.assertIs(is_clear(signature, kinds, filled[:number] + filled[number + 1:]), False)
            for values in itertools.product(*[plain.ordered_values(signature, kind, 2, 4)[:7] for kind in kinds]):
                before = plain_cases.answer(table, values)
                after = plain_cases.answer(filled, values)
                if isinstance(before, tuple):
                    before = len(table) + found.index(plain_cases.matching(table, values))
                self.assertEqual(after, before)
        self.assertGreater(many, 20)

    def test_one_by_one(self):
        """Point 81."""
        many = 0
        for dice, signature, kinds, table, _ in some_small_tables(250, 81, 5):
            told = told_or_word(quarrels, signature, kinds, table)
            if isinstance(told, str) or not told or len(table) == 8:
                continue
            at = dice.randrange(len(told))
            meets = needed(signature, kinds, table)
            if plain_cases.size(meets[at]) > 16:
                continue
            further = (*table, meets[at])
            new = len(table)
            expected = {(*numbers, new) if set(told[at]) <= set(numbers) else numbers: meet
                        for numbers, meet in zip(told, meets) if numbers != told[at]}
            self.assertEqual(dict(zip(quarrels(signature, kinds, further), needed(signature, kinds, further))), expected)
            many += 1
        self.assertGreater(many, 20)

    def test_rolls(self):
        roll = (((0,), ("old", 0)), ((0, 1), ("use", (ptr(STAR), ptr(OTHER)))),
                ((0, 1, 2), ("use", (ptr(STAR), ptr(STAR)))), ((1,), ("old", 1)), ((2,), ("old", 2)))
        self.assertEqual(count_evidence(TYPES, BOTH, FIRST, 2), ("enough", roll))
        self.assertEqual(count_evidence(TYPES, BOTH, FIRST, 300), ("enough", roll))
        self.assertEqual(count_evidence(TYPES, BOTH, FIRST, 1),
                         ("few", ((ptr(STAR), ptr(OTHER)), (ptr(STAR), ptr(STAR)))))
        self.assertEqual(count_evidence(TYPES, BOTH, FIRST, 0), ("few", ((ptr(STAR), ptr(OTHER)),)))
        self.assertEqual(count_evidence(TYPES, BOTH, (), 0), ("enough", ()))
        for count in (0, 1, 2, 3, 300):
            self.assertIs(accepts_count(TYPES, BOTH, FIRST, count, ("enough", roll)), count >= 2)
        other = (*roll[:1], ((0, 1), ("use", (ptr(INT), ptr(STAR)))), *roll[2:])
        self.assertIs(accepts_count(TYPES, BOTH, FIRST, 2, ("enough", other)), True)
        for wrong in (roll[:4], roll[1:], roll[::-1], (*roll, roll[0]), list(roll), ([(0,), ("old", 0)], *roll[1:]),
                      (((0,), ("old", 1)), *roll[1:]), (((False,), ("old", 0)), *roll[1:]), (((0,), ("old", False)), *roll[1:]),
                      (*roll[:1], ((0, 1), ("use", (ptr(STAR), ptr(STAR)))), *roll[2:]),
                      (((0,), ("use", (ptr(INT), INT))), *roll[1:]),
                      (((0,), ("never", ("by", 0))), *roll[1:]), (((0,), ("apart",)), *roll[1:]), (((0,),), *roll[1:]),
                      (([0], ("old", 0)), *roll[1:]), ((0, ("old", 0)), *roll[1:]), (((0,), ["old", 0]), *roll[1:]), None, 0):
            self.assertIs(accepts_count(TYPES, BOTH, FIRST, 2, ("enough", wrong)), False)
            self.assertIs(accepts_count(TYPES, BOTH, FIRST, 300, ("enough", wrong)), False)
        for value in (("enough",), ("enough", roll, 0), ["enough", roll], roll, ("few", roll), ("Enough", roll)):
            self.assertIs(accepts_count(TYPES, BOTH, FIRST, 2, value), False)

    def test_rolls_with_never(self):
        told = count_evidence(NUMBERS, BOTH, SECOND, 0)
        never = ("never", ("split", 0, (("by", 2), ("by", 3))))
        self.assertEqual(told, ("enough", (((0,), ("old", 0)), ((0, 1), never), ((0, 1, 2), ("old", 2)), ((0, 1, 3), ("old", 3)),
                                           ((1,), ("old", 1)))))
        use = ("use", (nxt(ZERO), nxt(ZERO)))
        self.assertIs(accepts_count(NUMBERS, BOTH, SECOND, 1, ("enough", (told[1][0], ((0, 1), use), *told[1][2:]))), False)

    def test_few(self):
        one, two, far = (ptr(STAR), ptr(OTHER)), (ptr(STAR), ptr(STAR)), (ptr(OTHER), ptr(INT))
        for uses, count, right in (((one,), 0, True), ((two,), 0, True), ((far,), 0, True), ((one, two), 1, True),
                                   ((two, one), 1, True), ((one, far), 1, False), ((one, one), 1, False), ((one, two), 0, False),
                                   ((one,), 1, False), ((), 0, False), ([one], 0, False), ((INT, INT), 1, False),
                                   (((INT, INT),), 0, False), ((None,), 0, False), (None, 0, False), (one, 1, False)):
            self.assertIs(accepts_count(TYPES, BOTH, FIRST, count, ("few", uses)), right)

    def test_whatever_is_judged(self):
        for table in (FIRST, FIRST[:2], ()):
            for count in (0, 1, 2):
                for value in (*NOTHINGS, *deep_things()):
                    for evidence in (value, (value,), ("few", value), ("enough", value), ("few", (value,)), (value, ()),
                                     ("few", (value,) * 3), ("enough", (value,) * 5), ("enough", (((0,), value), value)),
                                     ("few", ((value, value),)), ("enough", ((value, ("old", 0)),))):
                        # Without patterns there is one piece of evidence alone.
                        right = table == () and evidence == ("enough", ())
                        self.assertIs(accepts_count(TYPES, BOTH, table, count, evidence), right)


class Point82(unittest.TestCase):
    def test_open_kinds_alone(self):
        dice = random.Random(82)
        many = 0
        for _ in range(250):
            kinds = (0,) * dice.randint(1, 3)
            table = some_table(TYPES, kinds, dice, dice.randint(0, 6), 3)
            told = told_or_word(quarrels, TYPES, kinds, table)
            if isinstance(told, str):
                continue
            right = tuple(numbers for numbers, meet in plain_tables.whole_tuples(table) if meet not in table)
            self.assertEqual(told, right)
            many += len(told)
        self.assertGreater(many, 100)

    def test_with_closed_kinds_there_can_be_fewer(self):
        """The meet of two patterns is split, and its parts are put behind them."""
        dice = random.Random(83)
        many = 0
        for signature in some_signatures(300, 83) * 5:
            kinds = tuple(dice.randrange(len(signature)) for _ in range(2))
            table = crossing_table(signature, kinds, dice, 2)
            meet = plain_cases.meet(*table) if len(table) == 2 else None
            if meet is None or meet in table:
                continue
            closed = [variable for variable, kind in plain_cases.kinds_of_variables(signature, kinds, meet).items()
                      if not plain.is_open(signature, kind)]
            if not closed:
                continue
            parts = [plain_cases.numbered(part) for part in plain_cases.split(signature, kinds, meet, dice.choice(closed))]
            if len(parts) < 2 or set(parts) & set(table):
                continue
            many += 1
            self.assertEqual(quarrels(signature, kinds, table), ((0, 1),))
            self.assertEqual(quarrels(signature, kinds, (*table, *parts)), ())
            self.assertEqual(quarrel_evidence(signature, kinds, (*table, *parts), (0, 1))[0], "never")
            self.assertEqual(quarrels(signature, kinds, (*table, *parts[1:])), ((0, 1),))
        self.assertGreater(many, 15)


class Points83And84(unittest.TestCase):
    def test_wrong_arguments(self):
        calls = (quarrels, needed, lambda s, k, t: quarrel_evidence(s, k, t, None),
                 lambda s, k, t: accepts_quarrel(s, k, t, None, None), lambda s, k, t: count_evidence(s, k, t, None),
                 lambda s, k, t: accepts_count(s, k, t, None, None))
        nine = tuple((chain("next", many, 0), 1) for many in range(9))
        for function in calls:
            for signature in (*NOTHINGS, *deep_things(), [TYPES[0]]):
                bad(self, "signature", function, signature, None, None)
            for kinds in (*NOTHINGS, *deep_things(), [0], (True,), (-1,), (2,), (0,) * 7):
                bad(self, "kinds", function, NUMBERS, kinds, None)
            for table in (*deep_things(), None, 0, [(0, 1)], ((0, 1), (0, 1)), ((1, 0),), ((0, True),), ((0,),), nine,
                          ((chain("next", 15, 0), 1),)):
                bad(self, "table", function, NUMBERS, BOTH, table)
        table = nine[:8]
        for function in (quarrel_evidence, lambda s, k, t, n: accepts_quarrel(s, k, t, n, None)):
            for numbers in (*NOTHINGS, *deep_things(), (0,), (0, 0), (1, 0), (0, 8), (-1, 0), (0, True), (False, 1), [0, 1],
                            (0, 1, 1), ("0", 1), (0, None), (0, 10 ** 30), (None, 1)):
                bad(self, "numbers", function, NUMBERS, BOTH, table, numbers)
            bad(self, "numbers", function, NUMBERS, BOTH, (), (0, 1))
            bad(self, "numbers", function, TYPES, SIX, meeting_in(61), (0,))
        for function in (count_evidence, lambda s, k, t, n: accepts_count(s, k, t, n, None)):
            for count in (*[value for value in NOTHINGS if value not in (0, 1)], True, False, *deep_things(), -1, 301, 10 ** 30,
                          "0", (0,)):
                bad(self, "count", function, NUMBERS, BOTH, table, count)
            bad(self, "count", function, TYPES, SIX, meeting_in(61), 301)

    def test_edges(self):
        """Tables of 8 patterns, patterns of 16 places, and one to six kinds."""
        table = tuple((chain("next", many, 0), 1) for many in range(8))
        self.assertEqual(quarrels(NUMBERS, BOTH, table), ())
        self.assertEqual(quarrel_evidence(NUMBERS, BOTH, table, tuple(range(8))), ("old", 7))
        self.assertEqual(count_evidence(NUMBERS, BOTH, table, 0)[0], "enough")
        self.assertIs(accepts_count(NUMBERS, BOTH, table, 300, count_evidence(NUMBERS, BOTH, table, 300)), True)
        long = (chain("next", 15, 0),)
        self.assertEqual(quarrel_evidence(NUMBERS, (0,), ((0,), long), (0, 1)), ("old", 1))
        bad(self, "table", quarrels, NUMBERS, (0,), ((chain("next", 16, 0),),))
        for many in range(2, 7):
            one = (INT, *range(many - 1))
            other = (0, ptr(1), *range(2, many))
            self.assertEqual(needed(TYPES, (0,) * many, (one, other)), ((INT, ptr(0), *range(1, many - 1)),))

    def test_many_quarrels(self):
        """Eight patterns, each two of which meet: all tuples of two and more are quarrels."""
        kinds = (0,) * 6
        table = tuple(tuple([INT if place == at else place - (place > at) for place in range(6)]) for at in range(6))
        told = quarrels(TYPES, kinds, table)
        self.assertEqual(len(told), 2 ** 6 - 7)
        self.assertEqual(told, tuple(plain_tables.all_tuples(table, 2)))
        evidence = count_evidence(TYPES, kinds, table, 56)
        self.assertEqual((evidence[0], len(evidence[1])), ("few", 57))
        self.assertIs(accepts_count(TYPES, kinds, table, 56, evidence), True)
        evidence = count_evidence(TYPES, kinds, table, 57)
        self.assertEqual((evidence[0], len(evidence[1])), ("enough", 63))
        self.assertIs(accepts_count(TYPES, kinds, table, 57, evidence), True)
        self.assertIs(accepts_count(TYPES, kinds, table, 56, evidence), False)

    def all_calls(self, numbers):
        return (quarrels, needed, lambda s, k, t: quarrel_evidence(s, k, t, numbers),
                lambda s, k, t: accepts_quarrel(s, k, t, numbers, None), lambda s, k, t: count_evidence(s, k, t, 0),
                lambda s, k, t: accepts_count(s, k, t, 0, None))

    def test_meets_of_60_and_61_places(self):
        """Point 83: whichever patterns have the large meet, and whatever is asked."""
        off = (INT, ptr(0), ptr(1), 2, 3, 4)
        for table in (meeting_in(61), (off, *meeting_in(61)), (*meeting_in(61), off)):
            for function in self.all_calls((0, 1)):
                too_large(self, "terms", function, TYPES, SIX, table)
        self.assertEqual(len(needed(TYPES, SIX, meeting_in(60))), 1)
        self.assertEqual(plain_cases.size(needed(TYPES, SIX, meeting_in(60))[0]), 60)
        self.assertEqual(quarrel_evidence(TYPES, SIX, meeting_in(60), (0, 1))[0], "quarrel")

    def test_only_three_together_have_a_large_meet(self):
        table = ((0, 0, 0, 1, 2, 3), (0, 1, 2, 0, 0, 3), (chain("ptr", 10, 0), 1, 2, 3, 4, 5))
        sizes = {numbers: plain_tables.meet_of_several(table, numbers) for numbers in plain_tables.all_tuples(table, 2)}
        self.assertEqual({numbers: meet if meet == "large" else plain_cases.size(meet) for numbers, meet in sizes.items()},
                         {(0, 1): 6, (0, 1, 2): 56, (0, 2): 36, (1, 2): 36})
        longer = (*table[:2], (chain("ptr", 10, 0), 1, 2, 3, 4, chain("ptr", 0, 5)))
        self.assertEqual(len(quarrels(TYPES, SIX, longer)), 4)
        longer = (table[0], (0, 1, 2, 0, 0, chain("ptr", 5, 3)), table[2])
        for function in self.all_calls((0, 2)):
            too_large(self, "terms", function, TYPES, SIX, longer)
        self.assertEqual(len(quarrels(TYPES, SIX, longer[:2])), 1)

    def test_large_trees(self):
        """Point 84: the functions that judge raise nothing."""
        signature, kinds, table = wide_quarrel(1)
        told = quarrel_evidence(signature, kinds, table, (0, 1))
        self.assertEqual((told[0], len(list(leaves(told[1])))), ("never", 163))
        self.assertIs(accepts_quarrel(signature, kinds, table, (0, 1), told), True)
        told = quarrels(signature, kinds, table)
        signature, kinds, table = wide_quarrel(2)
        too_large(self, "cases", quarrel_evidence, signature, kinds, table, (0, 1))
        for function in (quarrels, needed, lambda s, k, t: count_evidence(s, k, t, 0), lambda s, k,
                         t: count_evidence(s, k, t, 300)):
            too_large(self, "cases", function, signature, kinds, table)
        # Other numbers have nothing to do with it.
        self.assertEqual(quarrel_evidence(signature, kinds, table, (2, 3)), ("never", ("by", 0)))
        self.assertEqual(quarrel_evidence(signature, kinds, table, (0, 2)), ("old", 2))
        self.assertIs(accepts_quarrel(signature, kinds, table, (0, 1), None), False)
        self.assertIs(accepts_count(signature, kinds, table, 0, ("few", ())), False)
        # Between three letters of two, two quarrel everywhere.
        values = (("vv", ("wn",)), ("vv", ("wn",)), ("la",), ("la",), ("lb",), ("wn",))
        self.assertEqual(choice_of(signature, kinds, table, values), 2)


def leaves(tree):
    if tree[0] == "by":
        yield tree
    else:
        for inner in tree[2]:
            yield from leaves(inner)


class Point85(unittest.TestCase):
    def test_example(self):
        self.assertEqual(quarrels(TYPES, BOTH, FIRST), ((0, 1), (0, 1, 2)))
        self.assertEqual(needed(TYPES, BOTH, FIRST), ((ptr(0), ptr(1)), (ptr(0), ptr(0))))
        self.assertEqual(plain_tables.meet_of_several(FIRST, (0, 2)), (ptr(0), ptr(0)))
        self.assertEqual(quarrels(NUMBERS, BOTH, SECOND), ())
        self.assertEqual(quarrels(NUMBERS, BOTH, SECOND[:3]), ((0, 1),))
        self.assertEqual([is_finite(NUMBERS, 0), len(some_signatures(1, 1))], [False, 1])


if __name__ == "__main__":
    unittest.main()
