"""Points 37 to 44, 47 and 48: tables and their answers."""

import random
import unittest

from closestfit.choice import accepts_choice, choice_evidence, choice_of, is_table, matching
from closestfit.strangers import seen_without
from tests import plain, plain_cases
from tests.makers import much_changed, some_kinds, some_pattern, some_table, values_of
from tests.samples import NOTHINGS, NUMBERS, TYPES, bad, chain, deep_things, some_signatures

INT = ("int",)
BOTH = (0, 0)


def ptr(term):
    return ("ptr", term)


def pair(one, other):
    return ("pair", one, other)


def stranger(number):
    return ("#", number)


# Point 48.
TWO = ((ptr(0), 1), (0, ptr(1)))
THREE = (*TWO, (ptr(0), ptr(1)))
TWELVE = tuple((chain("ptr", many, 0), 1) for many in range(12))


class Point37(unittest.TestCase):
    def test_tables(self):
        for table in ((), TWO, THREE, ((0, 0),), ((0, 1), (0, 0))):
            self.assertIs(is_table(TYPES, BOTH, table), True)

    def test_no_12_and_13_patterns(self):
        self.assertIs(is_table(TYPES, BOTH, ()), True)
        self.assertIs(is_table(TYPES, BOTH, TWELVE), True)
        self.assertIs(is_table(TYPES, BOTH, (*TWELVE, (chain("ptr", 12, 0), 1))), False)
        self.assertEqual(matching(TYPES, BOTH, TWELVE, (chain("ptr", 12, INT), INT)), tuple(range(12)))
        self.assertEqual(choice_of(TYPES, BOTH, TWELVE, (chain("ptr", 12, INT), INT)), 11)
        bad(self, "table", choice_of, TYPES, BOTH, (*TWELVE, (chain("ptr", 12, 0), 1)), (INT, INT))

    def test_no_two_equal_patterns(self):
        self.assertIs(is_table(TYPES, BOTH, (TWO[0], TWO[0])), False)
        self.assertIs(is_table(TYPES, BOTH, (TWO[0], TWO[1], TWO[0])), False)
        self.assertIs(is_table(TYPES, BOTH, ((0, 0), (0, 1))), True)

    def test_patterns_alone(self):
        for pattern in ((1, 0), (0, 2), (0,), (0, 1, 2), [0, 1], (0, True), (False, 1), (0, stranger(0)), (0, None), 0, None,
                        (chain("ptr", 15, 0), 1), (0, ("zero",)), ((0, 1),), ()):
            self.assertIs(is_table(TYPES, BOTH, (pattern,)), False)
            self.assertIs(is_table(TYPES, BOTH, (TWO[0], pattern)), False)
        self.assertIs(is_table(TYPES, BOTH, ((chain("ptr", 14, 0), 1),)), True)
        self.assertIs(is_table(TYPES, BOTH, [TWO[0]]), False)

    def test_whatever_is_judged(self):
        for value in (*NOTHINGS, *deep_things()):
            self.assertIs(is_table(TYPES, BOTH, value), value == ())
            self.assertIs(is_table(TYPES, BOTH, (value,)), False)
            right = isinstance(value, int) and not isinstance(value, bool) and value in (0, 1)
            self.assertIs(is_table(TYPES, BOTH, ((0, value),)), right)
            self.assertIs(is_table(TYPES, BOTH, ((0, ptr(ptr(value))), value)), False)

    def test_matching_numbers(self):
        self.assertEqual(matching(TYPES, BOTH, THREE, (ptr(INT), ptr(INT))), (0, 1, 2))
        self.assertEqual(matching(TYPES, BOTH, THREE, (INT, ptr(INT))), (1,))
        self.assertEqual(matching(TYPES, BOTH, THREE, (INT, stranger(0))), ())
        self.assertEqual(matching(TYPES, BOTH, (), (INT, INT)), ())

    def test_all_shapes(self):
        dice = random.Random(37)
        for signature in some_signatures(150, 51):
            kinds = some_kinds(signature, dice)
            table = some_table(signature, kinds, dice, dice.randint(0, 8))
            self.assertIs(is_table(signature, kinds, table), True)
            for pattern in (*table[:3], tuple(range(len(kinds)))):
                values = values_of(signature, kinds, pattern, dice)
                self.assertEqual(matching(signature, kinds, table, values), plain_cases.matching(table, values))
                self.assertEqual(choice_of(signature, kinds, table, values), plain_cases.answer(table, values))


class Point38(unittest.TestCase):
    def test_answers(self):
        self.assertEqual(choice_of(TYPES, BOTH, THREE, (ptr(INT), ptr(INT))), 2)
        self.assertEqual(choice_of(TYPES, BOTH, THREE, (INT, INT)), "none")
        self.assertEqual(choice_of(TYPES, BOTH, (), (INT, INT)), "none")
        self.assertEqual(choice_of(TYPES, BOTH, TWO, (ptr(INT), ptr(INT))), ("two", 0, 1))

    def test_the_two_least_numbers_of_the_lowest_patterns(self):
        table = ((0, 1), (ptr(0), 1), (0, ptr(1)), (0, 0), (ptr(ptr(0)), 1))
        values = (ptr(ptr(INT)), ptr(ptr(INT)))
        self.assertEqual(choice_of(TYPES, BOTH, table, values), ("two", 2, 3))
        self.assertEqual(choice_of(TYPES, BOTH, table, (ptr(ptr(INT)), ptr(INT))), ("two", 2, 4))
        self.assertEqual(choice_of(TYPES, BOTH, table, (ptr(ptr(INT)), INT)), 4)
        self.assertEqual(choice_of(TYPES, BOTH, table, (INT, INT)), 3)
        self.assertEqual(choice_of(TYPES, BOTH, table, (INT, stranger(0))), 0)
        self.assertEqual(choice_of(TYPES, BOTH, (*table, (ptr(ptr(0)), ptr(ptr(0)))), values), 5)

    def test_a_choice_that_is_not_the_last_one(self):
        table = ((ptr(0), ptr(1)), (ptr(0), 1), (0, ptr(1)), (0, 1))
        self.assertEqual(choice_of(TYPES, BOTH, table, (ptr(INT), ptr(INT))), 0)
        self.assertEqual(choice_of(TYPES, BOTH, table, (ptr(INT), INT)), 1)


class Points39And40(unittest.TestCase):
    def judge(self, table, values, value, right, signature=TYPES, kinds=BOTH):
        self.assertIs(accepts_choice(signature, kinds, table, values, value), right)
        self.assertIs(plain_cases.accepts_choice(table, values, value), right)

    def test_told_none(self):
        told = ("none", (("off", ("clash", (0,))), ("off", ("clash", (1,))), ("off", ("clash", (0,)))))
        self.assertEqual(choice_evidence(TYPES, BOTH, THREE, (INT, INT)), told)
        self.judge(THREE, (INT, INT), told, True)
        self.assertEqual(choice_evidence(TYPES, BOTH, (), (INT, INT)), ("none", ()))
        self.judge((), (INT, INT), ("none", ()), True)

    def test_told_one(self):
        table = (*THREE, (0, 0), (0, 1))
        told = choice_evidence(TYPES, BOTH, table, (ptr(INT), ptr(ptr(INT))))
        self.assertEqual(told, ("one", 2, (("above", (0, ptr(1))), ("above", (ptr(0), 1)), ("above", (0, 1)),
                                           ("off", ("unlike", (0,), (1,))), ("above", (ptr(0), ptr(1))))))
        self.judge(table, (ptr(INT), ptr(ptr(INT))), told, True)

    def test_told_two(self):
        table = (*TWO, (0, 1), (0, 0), (pair(0, 1), 2))
        told = choice_evidence(TYPES, BOTH, table, (ptr(INT), ptr(INT)))
        self.assertEqual(told, ("two", 0, 1, (
            ("beside", 1, ("clash", (1,))), ("beside", 0, ("clash", (0,))), ("beside", 0, ("clash", (0,))),
            ("beside", 0, ("clash", (0,))), ("off", ("clash", (0,))))))
        self.judge(table, (ptr(INT), ptr(INT)), told, True)

    def test_beside_i_if_not_below_it_and_otherwise_j(self):
        table = ((0, ptr(1)), (ptr(0), ptr(1)), (ptr(0), 1), (0, 0), (ptr(ptr(0)), 1))
        values = (ptr(ptr(INT)), ptr(ptr(INT)))
        told = choice_evidence(TYPES, BOTH, table, values)
        self.assertEqual(told, ("two", 1, 3, (
            ("beside", 1, ("clash", (0,))), ("beside", 3, ("unlike", (0,), (1,))), ("beside", 1, ("clash", (1,))),
            ("beside", 1, ("clash", (0,))), ("beside", 1, ("clash", (1,))))))
        self.judge(table, values, told, True)

    def test_evidence_of_somebody_else(self):
        """Right, and not the told one: other reasons, other numbers, and more said of what does not match."""
        values = (INT, stranger(0))
        table = ((pair(INT, 0), ptr(1)),)
        self.judge(table, values, ("none", (("off", ("clash", (0,))),)), True)
        self.judge(table, values, ("none", (("off", ("clash", (1,))),)), True)
        self.judge(table, values, ("none", (("off", ("clash", (0, 0))),)), False)
        table = (*TWO, (0, 0), (pair(0, 1), 2))
        values = (ptr(INT), ptr(INT))
        rows = {
            (0, 1): (("beside", 1, ("clash", (1,))), ("beside", 0, ("clash", (0,))), ("beside", 1, ("clash", (1,)))),
            (0, 2): (("beside", 2, ("unlike", (0,), (1,))), ("beside", 2, ("unlike", (0,), (1,))), ("beside", 0, ("clash", (0,)))),
            (1, 2): (("beside", 1, ("clash", (1,))), ("beside", 2, ("unlike", (0,), (1,))), ("beside", 1, ("clash", (1,)))),
        }
        last = ("off", ("clash", (0,)))
        for (i, j), items in rows.items():
            self.judge(table, values, ("two", i, j, (*items, last)), True)
            self.judge(table, values, ("two", j, i, (*items, last)), False)
        self.judge(table, values, ("two", 0, 1, (*rows[(0, 1)], ("beside", 0, ("clash", (0,))))), True)
        self.judge(table, values, ("two", 0, 1, (*rows[(0, 1)], ("beside", 1, ("clash", (1,))))), True)
        self.judge(table, values, ("two", 0, 1, (*rows[(0, 1)], ("beside", 2, ("unlike", (0,), (1,))))), False)
        self.judge(table, values, ("two", 0, 3, (*rows[(0, 1)], ("beside", 0, ("clash", (0,))))), False)
        self.judge(table, values, ("two", 0, 0, (*rows[(0, 1)], ("off", ("clash", (0,))))), False)

    def test_wrong_ones(self):
        values = (ptr(INT), ptr(INT))
        above = (("above", (0, ptr(1))), ("above", (ptr(0), 1)), ("above", (0, 1)))
        self.judge(THREE, values, ("one", 2, above), True)
        for value in (("one", 1, above), ("one", 0, above), ("one", 3, above), ("one", -1, above), ("one", None, above),
                      ("one", 2, above[:2]), ("one", 2, (*above, above[2])), ("one", 2, list(above)), ["one", 2, above],
                      ("one", 2), ("one", 2, above, 0), ("none", above), ("two", 2, above), ("One", 2, above),
                      ("one", 2, (above[0], above[1], ("above", (0, 0)))),
                      ("one", 2, (above[0], above[1], ("above", (1, 0)))),
                      ("one", 2, (above[0], above[1], ("above", [0, 1]))),
                      ("one", 2, (above[0], above[1], ["above", (0, 1)])),
                      ("one", 2, (above[0], above[1], ("above", (0, 1), 0))),
                      ("one", 2, (above[0], above[1], ("above",))),
                      ("one", 2, (above[0], above[1], ("beside", 0, ("clash", (1,))))),
                      ("one", 2, (above[0], ("off", ("clash", (0,))), above[2])),
                      ("one", 2, (above[0], ("off", ("is", (ptr(INT), INT))), above[2])),
                      ("one", 2, (("above", (INT, ptr(INT))), *above[1:])),
                      ("one", 2, None), ("one", 2, ()), ("one", 2, (None, None, None)), (2, above), None, ()):
            self.judge(THREE, values, value, False)

    def test_the_choice_of_another_one(self):
        """A chosen pattern must match, and the others that match must be above it."""
        self.judge(TWO, (ptr(INT), ptr(INT)), ("one", 0, (("above", (0, 1)), ("above", (ptr(0), 1)))), False)
        self.judge(THREE, (ptr(INT), INT), ("one", 2, (("above", (0, ptr(1))), ("above", (ptr(0), 1)), ("above", (0, 1)))), False)
        self.judge(THREE, (ptr(INT), INT), ("one", 0, (("above", (0, 1)), ("off", ("clash", (1,))), ("off", ("clash", (1,))))), True)

    def test_two_where_there_is_a_choice(self):
        values = (ptr(INT), ptr(INT))
        items = (("beside", 1, ("clash", (1,))), ("beside", 0, ("clash", (0,))))
        self.judge(TWO, values, ("two", 0, 1, items), True)
        for last in (("off", ("clash", (0,))), ("beside", 0, ("clash", (0,))), ("beside", 1, ("clash", (1,))),
                     ("beside", 2, ("clash", (0,))), ("above", (0, 1)), ("beside", True, ("clash", (1,)))):
            self.judge(THREE, values, ("two", 0, 1, (*items, last)), False)
        for value in (("two", False, 1, items), ("two", 0, True, items), ("two", 0, 1, items[:1]), ("two", 0, 1, list(items)),
                      ("two", 0, 1, (("beside", True, ("clash", (1,))), items[1])), ("two", 0, 2, items),
                      ("two", 0, 1, (("beside", 1, ("clash", (True,))), items[1])), ("two", None, 1, items),
                      ("two", 0, 1, (("beside", 0, ("is", (0, 1))), items[1])), ("two", 0, 1), ("two", 0, 1, items, ()),
                      ("two", 0, 1, (("beside", 1), items[1])), ("two", 0, 1, (["beside", 1, ("clash", (1,))], items[1]))):
            self.judge(TWO, values, value, False)
        self.judge(TWO, (ptr(INT), INT), ("two", 0, 1, items), False)

    def test_none_where_something_matches(self):
        self.judge(TWO, (ptr(INT), INT), ("none", (("off", ("clash", (0,))), ("off", ("clash", (1,))))), False)
        self.judge(TWO, (INT, INT), ("none", (("off", ("clash", (0,))), ("off", ("clash", (1,))))), True)
        self.judge(TWO, (INT, INT), ("none", (("off", ("clash", (0,))), ("off", ("clash", (True,))))), False)
        self.judge(TWO, (INT, INT), ("none", (("off", ("clash", (0,))),)), False)
        self.judge(TWO, (INT, INT), ("none", (("off", ("clash", (0,))), ("beside", 0, ("clash", (0,))))), False)
        self.judge((), (INT, INT), ("none", [],), False)
        self.judge((), (INT, INT), ("none", (), ()), False)

    def test_whatever_is_judged(self):
        values = (ptr(INT), ptr(INT))
        for table in (TWO, THREE):
            for value in (*NOTHINGS, *deep_things()):
                for evidence in (value, (value,), ("none", value), ("one", 2, value), ("one", value, value), ("two", 0, 1, value),
                                 ("two", value, 1, value), ("two", 0, value, value), ("none", (value,) * len(table)),
                                 ("one", 2, (value,) * len(table)), ("two", 0, 1, (value,) * len(table)),
                                 ("one", 2, (("above", value),) * len(table)), ("two", 0, 1, (("off", value),) * len(table)),
                                 ("two", 0, 1, (("beside", 0, value),) * len(table)),
                                 ("two", 0, 1, (("beside", value, ("clash", (0,))),) * len(table)),
                                 (value, 2, (("above", (0, 1)),) * 3)):
                    self.assertIs(accepts_choice(TYPES, BOTH, table, values, evidence), False)

    def test_all_shapes(self):
        dice = random.Random(39)
        words = {"none": 0, "one": 0, "two": 0}
        for signature in [*some_signatures(200, 52), *[TYPES] * 100]:
            kinds = some_kinds(signature, dice)
            table = some_table(signature, kinds, dice, dice.randint(0, 8))
            for pattern in (*table[:3], tuple(range(len(kinds)))):
                values = values_of(signature, kinds, pattern, dice)
                told = choice_evidence(signature, kinds, table, values)
                words[told[0]] += 1
                self.assertEqual(told, plain_cases.told_choice(table, values))
                self.assertIs(accepts_choice(signature, kinds, table, values, told), True)
                for value in much_changed(told, dice, 12):
                    accepted = accepts_choice(signature, kinds, table, values, value)
                    self.assertIs(accepted, plain_cases.accepts_choice(table, values, value))
                    self.assertTrue(not accepted or value[0] == told[0])
        self.assertGreater(min(words.values()), 30)


class Points41To44(unittest.TestCase):
    def some(self, seed, many=120):
        dice = random.Random(seed)
        for signature in [*some_signatures(many, seed), *[TYPES] * many]:
            kinds = some_kinds(signature, dice)
            table = some_table(signature, kinds, dice, dice.randint(1, 7))
            for pattern in table[:3]:
                yield dice, signature, kinds, table, values_of(signature, kinds, pattern, dice)

    def test_patterns_left_out(self):
        """Point 41."""
        for dice, signature, kinds, table, values in self.some(61):
            before = choice_of(signature, kinds, table, values)
            kept = [number for number in range(len(table)) if dice.random() < 0.6 or number == before]
            after = choice_of(signature, kinds, tuple(table[number] for number in kept), values)
            if isinstance(before, int):
                self.assertEqual(kept[after], before)
            if before == "none":
                self.assertEqual(after, "none")

    def test_a_pattern_at_the_end(self):
        """Point 42."""
        for dice, signature, kinds, table, values in self.some(62):
            new = some_pattern(signature, kinds, dice)
            if new in table:
                continue
            before = choice_of(signature, kinds, table, values)
            after = choice_of(signature, kinds, (*table, new), values)
            n = len(table)
            matched = [number for number in matching(signature, kinds, (*table, new), values) if number != n]
            if plain_cases.match(new, values) is None:
                self.assertEqual(after, before)
            elif before == "none":
                self.assertEqual(after, n)
            elif isinstance(before, int):
                below = plain_cases.is_below(new, table[before])
                above = plain_cases.is_below(table[before], new)
                self.assertEqual(after, n if below else before if above else ("two", before, n))
            elif all(plain_cases.is_below(new, table[number]) for number in matched):
                self.assertEqual(after, n)
            else:
                self.assertEqual(after[0], "two")

    def test_another_order(self):
        """Point 43."""
        for dice, signature, kinds, table, values in self.some(63):
            order = list(range(len(table)))
            dice.shuffle(order)
            before = choice_of(signature, kinds, table, values)
            after = choice_of(signature, kinds, tuple(table[number] for number in order), values)
            if isinstance(before, int):
                self.assertEqual(order[after], before)
            elif before == "none":
                self.assertEqual(after, "none")
            else:
                self.assertEqual(after[0], "two")
                self.assertLess(after[1], after[2])

    def test_what_others_add(self):
        """Point 44."""
        for dice, signature, kinds, table, values in self.some(64):
            used = str(table)
            names = tuple(name for how, row in signature for name, _ in row if how == "open" and f"'{name}'" not in used)
            seen = seen_without(signature, kinds, values, names)
            self.assertEqual(choice_of(signature, kinds, table, values), choice_of(signature, kinds, table, seen))
        table = ((0, 0), (ptr(0), 1))
        values = (pair(INT, INT), pair(INT, INT))
        self.assertEqual(choice_of(TYPES, BOTH, table, values), 0)
        self.assertEqual(choice_of(TYPES, BOTH, table, (pair(INT, INT), INT)), "none")
        self.assertEqual(choice_of(TYPES, BOTH, table, (stranger(3), stranger(3))), 0)


class Point47(unittest.TestCase):
    def test_wrong_arguments(self):
        calls = (matching, choice_of, choice_evidence, lambda s, k, t, v: accepts_choice(s, k, t, v, None))
        for function in (*calls, lambda s, k, t, v: is_table(s, k, t)):
            for signature in (*NOTHINGS, *deep_things(), [TYPES[0]]):
                bad(self, "signature", function, signature, None, None, None)
            for kinds in (*NOTHINGS, *deep_things(), [0], (True,), (1,), (-1,), (0,) * 7):
                bad(self, "kinds", function, TYPES, kinds, None, None)
        for function in calls:
            for table in (*[value for value in NOTHINGS if value != ()], *deep_things(), [TWO[0]], (TWO[0], TWO[0]),
                          ((1, 0),), ((0, True),), ((0, stranger(0)),), ((0,),), (0, 1), ([0, 1],)):
                bad(self, "table", function, TYPES, BOTH, table, None)
            for values in (*NOTHINGS, *deep_things(), [INT, INT], (INT,), (INT, INT, INT), (INT, 0), (INT, ["int"]),
                           (INT, stranger(True)), (INT, chain("ptr", 400, INT))):
                bad(self, "values", function, TYPES, BOTH, TWO, values)
        self.assertEqual(choice_of(TYPES, BOTH, TWO, (chain("ptr", 399, INT), INT)), 0)

    def test_one_to_six_kinds(self):
        for many in range(1, 7):
            kinds, values = (0,) * many, (INT,) * many
            table = (tuple(range(many)), (0,) * many)[:2 if many > 1 else 1]
            self.assertEqual(choice_of(TYPES, kinds, table, values), 1 if many > 1 else 0)
            told = choice_evidence(TYPES, kinds, table, values)
            self.assertIs(accepts_choice(TYPES, kinds, table, values, told), True)


class Point48(unittest.TestCase):
    def test_example(self):
        self.assertEqual(choice_of(TYPES, BOTH, TWO, (ptr(INT), INT)), 0)
        self.assertEqual(choice_of(TYPES, BOTH, TWO, (INT, INT)), "none")
        self.assertEqual(choice_of(TYPES, BOTH, TWO, (ptr(INT), ptr(stranger(0)))), ("two", 0, 1))
        self.assertEqual(choice_of(TYPES, BOTH, THREE, (ptr(INT), ptr(stranger(0)))), 2)

    def test_numbers(self):
        table = ((("zero",), 0), (("next", 0), 1), (("next", ("zero",)), ("box", ("zero",))))
        box = ("box", ("zero",))
        self.assertEqual(choice_of(NUMBERS, (0, 1), table, (("zero",), stranger(2))), 0)
        self.assertEqual(choice_of(NUMBERS, (0, 1), table, (("next", ("zero",)), box)), 2)
        self.assertEqual(choice_of(NUMBERS, (0, 1), table, (("next", ("next", ("zero",))), box)), 1)


if __name__ == "__main__":
    unittest.main()
