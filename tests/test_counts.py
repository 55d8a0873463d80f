"""Points 13 to 17: evidence about kinds, numbers and indexes."""

import unittest

from closestfit.counts import count_of, finite_evidence, index_of, is_finite_evidence, number_of, value_at
from closestfit.kinds import is_finite
from tests import plain
from tests.samples import (BIG, MIXED, NO_INTEGERS, NOTHINGS, NUMBERS, ONE, TYPES, bad, chain, deep_things,
                           not_possible, some_signatures)

LINE = (("closed", (("aa", (1,)),)), ("closed", (("bb", (2,)),)), ("closed", (("cc", ()),)))
ENDS_OPEN = (("closed", (("aa", ()), ("ab", (1, 2)))), ("closed", (("bb", (2,)),)), ("open", ()))


class Point13(unittest.TestCase):
    """count_of."""

    def test_numbers_of_values(self):
        self.assertEqual([count_of(BIG, kind) for kind in range(3)], [4, 64, 16384])
        self.assertEqual(count_of(ONE, 0), 1)
        self.assertEqual([count_of(MIXED, kind) for kind in range(3)], [None, None, 2])
        self.assertEqual([count_of(NUMBERS, kind) for kind in range(2)], [None, None])
        self.assertIsNone(count_of((("open", ()),), 0))

    def test_all_shapes(self):
        for signature in some_signatures(200, 14):
            for kind in range(len(signature)):
                count = count_of(signature, kind)
                if plain.finite(signature, kind) and count < 300:
                    self.assertEqual(count, len(plain.ordered_values(signature, kind, 0, 7)))
                self.assertEqual(count is None, not plain.finite(signature, kind))
                if count is not None:
                    self.assertEqual(count, sum(number_of(signature, kind, 0, size) for size in range(1, 61)))
                    self.assertEqual(count, sum(number_of(signature, kind, 9, size) for size in range(1, 8)))


class Point14(unittest.TestCase):
    def test_told_heights(self):
        self.assertEqual(finite_evidence(BIG, 2), ("finite", (0, 1, 2)))
        self.assertEqual(finite_evidence(BIG, 1), ("finite", (0, 1, None)))
        self.assertEqual(finite_evidence(BIG, 0), ("finite", (0, None, None)))
        self.assertEqual(finite_evidence(LINE, 0), ("finite", (2, 1, 0)))
        self.assertEqual(finite_evidence(MIXED, 2), ("finite", (None, None, 0)))
        self.assertEqual(finite_evidence(ONE, 0), ("finite", (0,)))

    def test_told_heights_are_greatest(self):
        signature = (("closed", (("aa", (2,)), ("ab", (1, 2)))), ("closed", (("bb", ()), ("bc", (2,)))),
                     ("closed", (("cc", ()),)))
        self.assertEqual(finite_evidence(signature, 0), ("finite", (2, 1, 0)))

    def test_told_ways(self):
        self.assertEqual(finite_evidence(NUMBERS, 0), ("endless", (("next", 0),)))
        self.assertEqual(finite_evidence(NUMBERS, 1), ("endless", ()))
        self.assertEqual(finite_evidence(MIXED, 0), ("endless", (("leaf", 0),)))
        self.assertEqual(finite_evidence(ENDS_OPEN, 0), ("endless", (("ab", 1),)))
        self.assertEqual(finite_evidence(ENDS_OPEN, 1), ("endless", (("bb", 0),)))

    def test_a_told_way_has_the_fewest_steps_and_is_the_first_one(self):
        """First the index of the constructor is compared, not its name, and then the index of the part."""
        signature = (("closed", (("zz", (1, 1)), ("aa", (1,)))), ("closed", (("mm", ()), ("ll", (1, 1)))))
        self.assertEqual(finite_evidence(signature, 0), ("endless", (("zz", 0), ("ll", 0))))
        self.assertIs(is_finite_evidence(signature, 0, ("endless", (("aa", 0), ("ll", 1)))), True)
        signature = (("closed", (("aa", (1,)), ("ab", (2,)))), ("closed", (("bb", ()), ("bc", (1,)))), ("open", ()))
        self.assertEqual(finite_evidence(signature, 0), ("endless", (("ab", 0),)))

    def test_ways_of_three_steps(self):
        signature = (("closed", (("aa", (1,)),)), ("closed", (("bb", (2,)),)), ("closed", (("cc", ()), ("cd", (2,)))))
        way = (("aa", 0), ("bb", 0), ("cd", 0))
        self.assertEqual(finite_evidence(signature, 0), ("endless", way))
        self.assertIs(is_finite_evidence(signature, 0, ("endless", way)), True)
        self.assertIs(is_finite_evidence(signature, 0, ("endless", (*way, ("cd", 0)))), False)
        self.assertIs(is_finite_evidence(signature, 1, ("endless", way[1:])), True)
        self.assertIs(is_finite_evidence(signature, 1, ("endless", (*way[1:], ("cd", 0)))), True)
        self.assertIs(is_finite_evidence(signature, 1, ("endless", way)), False)

    def test_all_shapes(self):
        for signature in some_signatures(400, 15):
            for kind in range(len(signature)):
                told = finite_evidence(signature, kind)
                if plain.finite(signature, kind):
                    self.assertEqual(told, ("finite", plain.heights(signature, kind)))
                else:
                    self.assertEqual(told, ("endless", plain.ways(signature, kind, 3)[0]))
                self.assertIs(is_finite_evidence(signature, kind, told), True)

    def test_exactly_the_right_ways_are_evidence(self):
        for signature in some_signatures(60, 16):
            for kind in range(len(signature)):
                right = plain.ways(signature, kind, 3)
                for start in range(len(signature)):
                    for way in plain.all_steps(signature, start, 3):
                        told = is_finite_evidence(signature, kind, ("endless", way))
                        self.assertIs(told, way in right)

    def test_exactly_the_right_heights_are_evidence(self):
        choices = (None, 0, 1, 2)
        for signature in some_signatures(60, 17):
            if len(signature) < 3:
                continue
            for heights in [(one, two, three) for one in choices for two in choices for three in choices]:
                right = all(
                    height is None or (signature[kind][0] == "closed" and all(
                        heights[part] is not None and heights[part] < height
                        for _, parts in signature[kind][1] for part in parts))
                    for kind, height in enumerate(heights))
                for kind in range(3):
                    told = is_finite_evidence(signature, kind, ("finite", heights))
                    self.assertIs(told, right and heights[kind] is not None)
                    self.assertTrue(is_finite(signature, kind) or not told)

    def test_heights_of_somebody_else(self):
        """Right ones that are not told."""
        self.assertIs(is_finite_evidence(BIG, 0, ("finite", (2, None, None))), True)
        self.assertIs(is_finite_evidence(BIG, 0, ("finite", (0, 1, 2))), True)
        self.assertIs(is_finite_evidence(BIG, 1, ("finite", (1, 2, None))), True)
        self.assertIs(is_finite_evidence(ONE, 0, ("finite", (2,))), True)
        self.assertIs(is_finite_evidence(ONE, 0, ("finite", (3,))), False)
        self.assertIs(is_finite_evidence(ONE, 0, ("finite", (-1,))), False)
        self.assertIs(is_finite_evidence(ONE, 0, ("finite", (None,))), False)
        self.assertIs(is_finite_evidence(BIG, 0, ("finite", (0, None, 2))), False)

    def test_integers_are_never_true_or_false(self):
        self.assertIs(is_finite_evidence(BIG, 0, ("finite", (False, None, None))), False)
        self.assertIs(is_finite_evidence(BIG, 1, ("finite", (0, True, None))), False)
        self.assertIs(is_finite_evidence(BIG, 0, ("finite", (0, None, False))), False)
        self.assertIs(is_finite_evidence(NUMBERS, 0, ("endless", (("next", False),))), False)
        self.assertIs(is_finite_evidence(ENDS_OPEN, 0, ("endless", (("ab", True),))), False)

    def test_wrong_forms(self):
        way = (("next", 0),)
        for value in (("endless", way, ()), ("endless",), ("finite", way), ["endless", way], ("endless", [("next", 0)]),
                      ("endless", (["next", 0],)), ("endless", (("next", 0, 0),)), ("endless", (("next",),)),
                      ("endless", (("next", 1),)), ("endless", (("next", -1),)), ("endless", (("zero", 0),)),
                      ("endless", (("none", 0),)), ("endless", (("box", 0),)), ("endless", ()), ("way", way), way,
                      ("endless", None), ("endless", ("next", 0)), ("endless", (("next", None),)),
                      ("endless", ((None, 0),)), ("endless", ((["next"], 0),)), ("Endless", way)):
            self.assertIs(is_finite_evidence(NUMBERS, 0, value), False)
        for value in (("finite", (0,), 0), ("finite",), ("finite", [0, None, None]), ["finite", (0, None, None)],
                      ("finite", (0, None)), ("finite", (0, None, None, None)), ("finite", ()), ("finite", 0),
                      ("finite", ("0", None, None)), ("finite", ((0,), None, None)), ("endless", (0, None, None)),
                      ("finite", None), ("finite", (None, None, None))):
            self.assertIs(is_finite_evidence(BIG, 0, value), False)

    def test_whatever_is_judged(self):
        for signature in (NUMBERS, BIG, MIXED):
            for value in (*NOTHINGS, *deep_things()):
                for kind in range(len(signature)):
                    self.assertIs(is_finite_evidence(signature, kind, value), False)
                    self.assertIs(is_finite_evidence(signature, kind, ("finite", value)), False)
                    self.assertIs(is_finite_evidence(signature, kind, ("finite", (value,) * len(signature))), False)
                    self.assertIs(is_finite_evidence(signature, kind, ("endless", (value,))), False)
                    self.assertIs(is_finite_evidence(signature, kind, ("endless", ((value, 0),))), False)
                    if value != 0:
                        self.assertIs(is_finite_evidence(signature, kind, ("endless", (("next", value),))), False)
        self.assertIs(is_finite_evidence(BIG, 0, ("endless", ())), False)


class Point16(unittest.TestCase):
    def test_numbers(self):
        for size in range(1, 61):
            self.assertEqual(number_of(NUMBERS, 0, 9, size), 1)
        self.assertEqual([number_of(NUMBERS, 1, 3, size) for size in (1, 2, 3)], [3, 1, 1])
        self.assertEqual([number_of(TYPES, 0, 0, size) for size in range(1, 7)], [1, 1, 2, 4, 9, 21])
        self.assertEqual(number_of(TYPES, 0, 9, 3), 110)
        self.assertEqual(number_of((("open", ()),), 0, 0, 1), 0)
        self.assertEqual(number_of((("open", ()),), 0, 9, 2), 0)

    def test_the_sum_that_the_point_tells(self):
        signature = (("closed", (("aa", ()), ("ab", (1, 0)), ("ac", (1,)))), ("open", (("ba", (0, 1)), ("bb", ()))))
        for kind in range(2):
            for size in range(2, 61):
                total = 0
                for _, parts in signature[kind][1]:
                    if len(parts) == 1:
                        total += number_of(signature, parts[0], 4, size - 1)
                    if len(parts) == 2:
                        total += sum(number_of(signature, parts[0], 4, i) * number_of(signature, parts[1], 4, size - 1 - i)
                                     for i in range(1, size - 1))
                self.assertEqual(number_of(signature, kind, 4, size), total)

    def test_all_shapes(self):
        for signature in some_signatures(60, 18):
            for kind in range(len(signature)):
                for strangers in (0, 1, 2):
                    for size in range(1, 5):
                        self.assertEqual(number_of(signature, kind, strangers, size),
                                         len(plain.values_of_size(signature, kind, strangers, size)))

    def test_wrong_arguments(self):
        """Point 21."""
        for strangers in (*NO_INTEGERS, -1, 10):
            bad(self, "strangers", number_of, NUMBERS, 0, strangers, 1)
            bad(self, "strangers", number_of, NUMBERS, 0, strangers, 0)
            bad(self, "strangers", value_at, NUMBERS, 0, strangers, -1)
            bad(self, "strangers", index_of, NUMBERS, 0, strangers, None)
        for size in (*NO_INTEGERS, -1, 61):
            bad(self, "size", number_of, NUMBERS, 0, 0, size)
        bad(self, "size", number_of, NUMBERS, 0, 9, 0)
        self.assertEqual(number_of(NUMBERS, 1, 9, 60), 1)
        self.assertEqual(number_of(NUMBERS, 1, 9, 1), 9)

    def test_wrong_signatures_and_kinds(self):
        calls = (finite_evidence, count_of, lambda s, k: is_finite_evidence(s, k, None),
                 lambda s, k: number_of(s, k, None, None), lambda s, k: value_at(s, k, None, None),
                 lambda s, k: index_of(s, k, None, None))
        for function in calls:
            for signature in (*NOTHINGS, *deep_things(), [NUMBERS[0]], (("closed", ()),)):
                bad(self, "signature", function, signature, 9)
            for kind in (*NO_INTEGERS, -1, 2):
                bad(self, "kind", function, NUMBERS, kind)


class Points15And17(unittest.TestCase):
    def test_example_of_point_22(self):
        values = [("#", 0)] + [("box", chain("next", many, ("zero",))) for many in range(59)]
        for index, value in enumerate(values):
            self.assertEqual(value_at(NUMBERS, 1, 1, index), value)
            self.assertEqual(index_of(NUMBERS, 1, 1, value), index)
        self.assertIs(is_finite(NUMBERS, 0), False)

    def test_order(self):
        """By places, then by constructors with strangers after them, then by first parts, then by second parts."""
        self.assertEqual([value_at(TYPES, 0, 2, index) for index in range(9)], [
            ("int",), ("#", 0), ("#", 1), ("ptr", ("int",)), ("ptr", ("#", 0)), ("ptr", ("#", 1)),
            ("ptr", ("ptr", ("int",))), ("ptr", ("ptr", ("#", 0))), ("ptr", ("ptr", ("#", 1)))])
        self.assertEqual([value_at(TYPES, 0, 2, index) for index in range(9, 19)], [
            ("pair", ("int",), ("int",)), ("pair", ("int",), ("#", 0)), ("pair", ("int",), ("#", 1)),
            ("pair", ("#", 0), ("int",)), ("pair", ("#", 0), ("#", 0)), ("pair", ("#", 0), ("#", 1)),
            ("pair", ("#", 1), ("int",)), ("pair", ("#", 1), ("#", 0)), ("pair", ("#", 1), ("#", 1)),
            ("ptr", ("ptr", ("ptr", ("int",))))])

    def test_all_shapes(self):
        for signature in some_signatures(60, 19):
            for kind in range(len(signature)):
                for strangers in (0, 1, 3):
                    values = plain.ordered_values(signature, kind, strangers, 5)[:300]
                    told = [value_at(signature, kind, strangers, index) for index in range(len(values))]
                    self.assertEqual(told, values)
                    self.assertEqual([index_of(signature, kind, strangers, value) for value in values],
                                     list(range(len(values))))

    def test_there_and_back_at_great_indexes(self):
        for signature, kind in ((TYPES, 0), (MIXED, 0), (MIXED, 1), (NUMBERS, 1)):
            before = 0
            for size in range(1, 61):
                many = number_of(signature, kind, 9, size)
                for index in sorted({before, before + many // 3, before + many // 2, before + many - 1}):
                    if before <= index < before + many:
                        value = value_at(signature, kind, 9, index)
                        self.assertEqual(plain.places(value), size)
                        self.assertEqual(index_of(signature, kind, 9, value), index)
                before += many
            not_possible(self, "index", value_at, signature, kind, 9, before)
            not_possible(self, "index", value_at, signature, kind, 9, before + 10 ** 80)

    def test_neighbours_are_in_order_at_great_indexes(self):
        for index in (10 ** 9, 10 ** 20, 10 ** 30 + 12345):
            keys = [plain.order_key(TYPES, 0, value_at(TYPES, 0, 5, index + i)) for i in range(50)]
            self.assertEqual(keys, sorted(keys))
            self.assertEqual(len(keys), len(set(keys)))

    def test_the_first_index_behind_all(self):
        for kind, count in enumerate((4, 64, 16384)):
            self.assertEqual(plain.places(value_at(BIG, kind, 0, count - 1)), (1, 3, 7)[kind])
            not_possible(self, "index", value_at, BIG, kind, 0, count)
        self.assertEqual(value_at(NUMBERS, 0, 0, 59), chain("next", 59, ("zero",)))
        not_possible(self, "index", value_at, NUMBERS, 0, 0, 60)
        not_possible(self, "index", value_at, (("open", ()),), 0, 0, 0)
        self.assertEqual(value_at((("open", ()),), 0, 9, 8), ("#", 8))
        not_possible(self, "index", value_at, (("open", ()),), 0, 9, 9)

    def test_wrong_indexes(self):
        for index in (*NO_INTEGERS, -1, -10 ** 20):
            bad(self, "index", value_at, NUMBERS, 1, 0, index)

    def test_values_that_have_no_index(self):
        self.assertEqual(index_of(NUMBERS, 0, 0, chain("next", 59, ("zero",))), 59)
        bad(self, "value", index_of, NUMBERS, 0, 0, chain("next", 60, ("zero",)))
        for strangers in range(10):
            bad(self, "value", index_of, NUMBERS, 1, strangers, ("#", strangers))
            bad(self, "value", index_of, TYPES, 0, strangers, ("pair", ("int",), ("ptr", ("#", strangers))))
            for number in range(strangers):
                self.assertEqual(index_of(NUMBERS, 1, strangers, ("#", number)), number)
        for value in (*NOTHINGS, *deep_things(), ("box", ("zero",)), ("#", 0), ["zero"], ("next", ["zero"])):
            bad(self, "value", index_of, NUMBERS, 0, 9, value)
        for number in (True, False, None, -1, "0"):
            bad(self, "value", index_of, NUMBERS, 1, 9, ("#", number))


if __name__ == "__main__":
    unittest.main()
