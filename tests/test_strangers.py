"""Points 18 to 21: strangers."""

import random
import unittest

from closestfit.counts import finite_evidence, index_of, value_at
from closestfit.kinds import is_finite, is_signature, is_value
from closestfit.strangers import exchanged, renumbered, seen_without, with_constructor
from tests import plain
from tests.samples import (BIG, MIXED, NO_INTEGERS, NOTHINGS, NUMBERS, TYPES, bad, chain, deep_things, not_possible,
                           some_signatures, too_large)

TWO_OPEN = (("open", (("aa", (1,)), ("ab", (0, 1)))), ("open", (("ba", (0,)), ("bb", ()))))
INT = ("int",)


def stranger(number):
    return ("#", number)


def pair(one, other):
    return ("pair", one, other)


class Point18(unittest.TestCase):
    def test_numbers_in_the_order_in_which_they_come(self):
        value = pair(stranger(7), pair(stranger(3), pair(stranger(7), stranger(0))))
        self.assertEqual(renumbered(TYPES, (0,), (value,)),
                         (pair(stranger(0), pair(stranger(1), pair(stranger(0), stranger(2)))),))

    def test_through_all_values_of_the_tuple(self):
        self.assertEqual(renumbered(TYPES, (0, 0), (stranger(5), pair(stranger(2), stranger(5)))),
                         (stranger(0), pair(stranger(1), stranger(0))))

    def test_each_kind_has_its_own_numbers(self):
        values = (("ab", stranger(4), stranger(4)), ("ba", ("aa", stranger(9))), stranger(4))
        self.assertEqual(renumbered(TWO_OPEN, (0, 1, 1), values),
                         (("ab", stranger(0), stranger(0)), ("ba", ("aa", stranger(1))), stranger(0)))

    def test_great_numbers_and_no_strangers(self):
        self.assertEqual(renumbered(TYPES, (0, 0), (stranger(10 ** 50), INT)), (stranger(0), INT))
        self.assertEqual(renumbered(NUMBERS, (0,), (("zero",),)), (("zero",),))

    def test_constructors_stay(self):
        value = chain("next", 399, ("zero",))
        self.assertEqual(renumbered(NUMBERS, (0,), (value,)), (value,))
        self.assertEqual(renumbered(TYPES, (0,), (chain("ptr", 399, stranger(2)),)), (chain("ptr", 399, stranger(0)),))

    def test_all_shapes(self):
        dice = random.Random(18)
        for signature in some_signatures(100, 20):
            kinds = tuple(dice.randrange(len(signature)) for _ in range(dice.randint(1, 6)))
            values = plain.some_values(signature, kinds, 9, dice)
            told = renumbered(signature, kinds, values)
            self.assertEqual(told, plain.renumbered(signature, kinds, values))
            self.assertEqual(renumbered(signature, kinds, told), told)

    def test_the_same_up_to_strangers_are_equal_when_renumbered(self):
        dice = random.Random(19)
        for signature in some_signatures(60, 21):
            kinds = (0, len(signature) - 1)
            values = plain.some_values(signature, kinds, 4, dice)
            moved = tuple(plain.changed(signature, kind, value, lambda near, number: stranger(20 - 3 * number - near))
                          for kind, value in zip(kinds, values))
            self.assertEqual(renumbered(signature, kinds, moved), renumbered(signature, kinds, values))
        self.assertNotEqual(renumbered(TYPES, (0, 0), (stranger(1), stranger(1))),
                            renumbered(TYPES, (0, 0), (stranger(1), stranger(0))))

    def test_wrong_arguments(self):
        """Point 21."""
        calls = (lambda s, k, v: renumbered(s, k, v), lambda s, k, v: exchanged(s, k, v, None),
                 lambda s, k, v: seen_without(s, k, v, None))
        for function in calls:
            for signature in (*NOTHINGS, *deep_things(), [TYPES[0]]):
                bad(self, "signature", function, signature, None, None)
            for kinds in (*NOTHINGS, *deep_things(), (0,) * 7, [0], (True,), (False,), (None,), (-1,), (2,), (0, "0")):
                bad(self, "kinds", function, NUMBERS, kinds, None)
            for values in (*NOTHINGS, *deep_things(), (("zero",), ("zero",)), [("zero",)], (["zero"],),
                           (("next", ["zero"]),), (stranger(0),), (("box", ("zero",)),),
                           (chain("next", 400, ("zero",)),)):
                bad(self, "values", function, NUMBERS, (0,), values)
            for number in (True, False, None, -1, "0"):
                bad(self, "values", function, TYPES, (0, 0), (INT, stranger(number)))
        self.assertEqual(renumbered(NUMBERS, (0,) * 6, (("zero",),) * 6), (("zero",),) * 6)


class Point19(unittest.TestCase):
    def test_all_places_of_the_stranger(self):
        self.assertEqual(exchanged(TYPES, (0, 0), (pair(stranger(0), stranger(1)), stranger(0)), ((0, 0, INT),)),
                         (pair(INT, stranger(1)), INT))

    def test_all_at_once(self):
        swap = ((0, 0, stranger(1)), (0, 1, ("ptr", stranger(0))))
        self.assertEqual(exchanged(TYPES, (0,), (pair(stranger(0), stranger(1)),), swap),
                         (pair(stranger(1), ("ptr", stranger(0))),))

    def test_each_stranger_of_its_kind(self):
        values = (("ab", stranger(0), stranger(0)), stranger(0))
        self.assertEqual(exchanged(TWO_OPEN, (0, 1), values, ((1, 0, ("bb",)),)),
                         (("ab", stranger(0), ("bb",)), ("bb",)))
        self.assertEqual(exchanged(TWO_OPEN, (0, 1), values, ((0, 0, ("aa", stranger(0))), (1, 0, ("ba", stranger(0))))),
                         (("ab", ("aa", stranger(0)), ("ba", stranger(0))), ("ba", stranger(0))))

    def test_strangers_that_do_not_stand_there_and_the_empty_exchange(self):
        values = (pair(stranger(2), INT),)
        self.assertEqual(exchanged(TYPES, (0,), values, ()), values)
        self.assertEqual(exchanged(TYPES, (0,), values, ((0, 0, INT), (0, 1, INT), (0, 10 ** 30, INT))), values)

    def test_wrong_exchanges(self):
        """Point 21."""
        values = (stranger(0),)
        long = chain("ptr", 400, INT)
        for exchange in (*NOTHINGS[:9], *NOTHINGS[10:], *deep_things(), [(0, 0, INT)], ([0, 0, INT],), ((0, 0),),
                         ((0, 0, INT, INT),), ((0, True, INT),), ((False, 0, INT),), ((0, None, INT),),
                         ((0, -1, INT),), ((1, 0, INT),), ((-1, 0, INT),), ((0, 0, ("zero",)),), ((0, 0, ["int"]),),
                         ((0, 0, long),), ((0, 0, ("ptr", ["int"])),), ((0, 0, None),), (0, 0, INT),
                         ((0, 0, INT), (0, 0, INT)), ((0, 1, INT), (0, 0, INT)), ((0, 0, INT), (0, 0, stranger(1))),
                         ((0, "0", INT),), (("0", 0, INT),)):
            bad(self, "exchange", exchanged, TYPES, (0,), values, exchange)
        for value in deep_things():
            bad(self, "exchange", exchanged, TYPES, (0,), values, ((0, 0, value),))
            bad(self, "exchange", exchanged, TYPES, (0,), values, ((0, value, INT),))
            bad(self, "exchange", exchanged, TYPES, (0,), values, ((value, 0, INT),))
        bad(self, "exchange", exchanged, NUMBERS, (1,), values, ((0, 0, ("zero",)),))
        bad(self, "exchange", exchanged, TWO_OPEN, (0,), values, ((1, 0, ("bb",)), (0, 5, ("aa", ("bb",)))))
        self.assertEqual(exchanged(TWO_OPEN, (0,), values, ((0, 5, ("aa", ("bb",))), (1, 0, ("bb",)))), values)

    def test_400_places(self):
        for many in (200, 201, 399):
            value = pair(chain("ptr", many - 1, stranger(0)), INT)
            exchange = ((0, 0, chain("ptr", 400 - many - 2, INT)),) if many < 399 else ((0, 0, INT),)
            if many < 399:
                told, = exchanged(TYPES, (0,), (value,), exchange)
                self.assertEqual(plain.places(told), 400)
                more = ((0, 0, chain("ptr", 400 - many - 1, INT)),)
                too_large(self, "value", exchanged, TYPES, (0,), (value,), more)
        told, = exchanged(TYPES, (0,), (stranger(0),), ((0, 0, chain("ptr", 399, INT)),))
        self.assertEqual(told, chain("ptr", 399, INT))
        full = chain("ptr", 398, stranger(0))
        self.assertEqual(exchanged(TYPES, (0,), (full,), ((0, 0, ("ptr", INT)),)), (chain("ptr", 399, INT),))
        too_large(self, "value", exchanged, TYPES, (0,), (full,), ((0, 0, ("ptr", ("ptr", INT))),))

    def test_each_new_value_counts_for_itself(self):
        full = chain("ptr", 399, stranger(0))
        self.assertEqual(exchanged(TYPES, (0, 0), (full, full), ((0, 0, INT),)), (chain("ptr", 399, INT),) * 2)
        too_large(self, "value", exchanged, TYPES, (0, 0), (INT, full), ((0, 0, ("ptr", INT)),))

    def test_very_large_ones_are_not_built(self):
        wide = stranger(0)
        for _ in range(7):
            wide = pair(wide, wide)
        too_large(self, "value", exchanged, TYPES, (0,) * 6, (wide,) * 6, ((0, 0, chain("ptr", 399, INT)),))

    def test_all_shapes(self):
        dice = random.Random(22)
        for signature in some_signatures(150, 22):
            open_kinds = [kind for kind in range(len(signature)) if plain.is_open(signature, kind)]
            kinds = tuple(dice.randrange(len(signature)) for _ in range(dice.randint(1, 6)))
            values = plain.some_values(signature, kinds, 3, dice)
            where = sorted({(kind, dice.randrange(4)) for kind in open_kinds for _ in range(3)})
            exchange = tuple((kind, number, *plain.some_values(signature, (kind,), 3, dice)) for kind, number in where)
            table = {(kind, number): value for kind, number, value in exchange}
            right = tuple(plain.changed(signature, kind, value, lambda near, n: table.get((near, n), stranger(n)))
                          for kind, value in zip(kinds, values))
            if all(plain.places(value) <= 400 for value in right):
                self.assertEqual(exchanged(signature, kinds, values, exchange), right)
            else:
                too_large(self, "value", exchanged, signature, kinds, values, exchange)


class Point20(unittest.TestCase):
    def test_with_constructor(self):
        self.assertEqual(with_constructor(NUMBERS, 1, ("crate", (1, 0))),
                         (NUMBERS[0], ("open", (("box", (0,)), ("crate", (1, 0))))))
        self.assertEqual(with_constructor((("open", ()),), 0, ("aa", ())), (("open", (("aa", ()),)),))
        told = with_constructor(MIXED, 1, ("abcdefgh", ()))
        self.assertEqual((told[0], told[2]), (MIXED[0], MIXED[2]))
        self.assertEqual(told[1], ("open", (("flag", (2,)), ("tree", (0,)), ("abcdefgh", ()))))
        self.assertIs(is_signature(told), True)

    def test_a_kind_with_four_constructors(self):
        signature = (("open", (("aa", ()), ("ab", ()), ("ac", ()))),)
        signature = with_constructor(signature, 0, ("ad", (0, 0)))
        self.assertEqual(len(signature[0][1]), 4)
        not_possible(self, "full", with_constructor, signature, 0, ("ae", ()))
        bad(self, "constructor", with_constructor, signature, 0, ("ad", ()))

    def test_wrong_arguments_of_with_constructor(self):
        """Point 21."""
        for signature in (*NOTHINGS, *deep_things(), [TYPES[0]]):
            bad(self, "signature", with_constructor, signature, None, None)
        for kind in (*NO_INTEGERS, -1, 2, 0):
            bad(self, "kind", with_constructor, NUMBERS, kind, None)
        for constructor in (*NOTHINGS, *deep_things(), ("aa",), ("aa", (), ()), ["aa", ()], ("aa", []), ("a", ()),
                            ("abcdefghi", ()), ("aA", ()), ("zero", ()), ("box", ()), ("aa", (2,)), ("aa", (-1,)),
                            ("aa", (True,)), ("aa", (None,)), ("aa", (0, 0, 0)), ("aa", 0), (None, ()), (["aa"], ())):
            bad(self, "constructor", with_constructor, NUMBERS, 1, constructor)
        for value in deep_things():
            bad(self, "constructor", with_constructor, NUMBERS, 1, ("aa", value))
            bad(self, "constructor", with_constructor, NUMBERS, 1, (value, ()))

    def test_all_stays_with_a_further_constructor(self):
        for signature in some_signatures(120, 23):
            for kind in range(len(signature)):
                if not plain.is_open(signature, kind) or len(signature[kind][1]) == 4:
                    continue
                more = with_constructor(signature, kind, ("zz", (0, kind)))
                for near in range(len(signature)):
                    self.assertEqual(is_finite(more, near), is_finite(signature, near))
                    if is_finite(signature, near):
                        self.assertEqual(finite_evidence(more, near), finite_evidence(signature, near))
                    indexes = []
                    for index in range(12):
                        try:
                            value = value_at(signature, near, 2, index)
                        except ValueError:
                            break
                        self.assertIs(is_value(more, near, value), True)
                        indexes.append(index_of(more, near, 2, value))
                    self.assertEqual(indexes, sorted(set(indexes)))

    def test_seen_without(self):
        values = (pair(("ptr", INT), ("ptr", INT)), pair(("ptr", stranger(4)), stranger(0)), INT)
        self.assertEqual(seen_without(TYPES, (0, 0, 0), values, ("ptr",)),
                         (pair(stranger(5), stranger(5)), pair(stranger(6), stranger(0)), INT))

    def test_whole_values_and_parts_in_no_other_such_part(self):
        values = (("ptr", ("ptr", INT)), ("ptr", INT), pair(("ptr", INT), INT))
        self.assertEqual(seen_without(TYPES, (0, 0, 0), values, ("ptr",)),
                         (stranger(0), stranger(1), pair(stranger(1), INT)))
        self.assertEqual(seen_without(TYPES, (0, 0, 0), values, ("ptr", "int")),
                         (stranger(0), stranger(1), pair(stranger(1), stranger(2))))
        self.assertEqual(seen_without(TYPES, (0, 0, 0), values, ()), values)

    def test_the_numbers_are_behind_those_of_all_strangers_in_the_values(self):
        """Also of those that are in the parts that are no longer seen; of each kind for itself."""
        self.assertEqual(seen_without(TYPES, (0, 0), (("ptr", stranger(8)), INT), ("ptr",)), (stranger(9), INT))
        values = (("ab", ("aa", stranger(3)), stranger(7)), ("ba", stranger(5)), ("aa", ("bb",)))
        self.assertEqual(seen_without(TWO_OPEN, (0, 1, 0), values, ("aa", "ba")),
                         (("ab", stranger(6), stranger(7)), stranger(8), stranger(7)))
        self.assertEqual(seen_without(TWO_OPEN, (0,), (("aa", ("bb",)),), ("bb",)), (("aa", stranger(0)),))

    def test_parts_that_differ_in_strangers_alone(self):
        values = (pair(("ptr", stranger(0)), pair(("ptr", stranger(1)), ("ptr", stranger(0)))),)
        self.assertEqual(seen_without(TYPES, (0,), values, ("ptr",)),
                         (pair(stranger(2), pair(stranger(3), stranger(2))),))

    def test_deep_values(self):
        value = chain("ptr", 399, INT)
        self.assertEqual(seen_without(TYPES, (0,), (value,), ("ptr",)), (stranger(0),))
        self.assertEqual(seen_without(TYPES, (0,), (value,), ("int",)), (chain("ptr", 399, stranger(0)),))

    def test_wrong_names(self):
        """Point 21."""
        for names in (None, True, 0, "ptr", [], ["ptr"], {}, ("ptr", "ptr"), ("none",), ("",), (None,), (0,), (["ptr"],),
                      (("ptr",),), ("ptr", True), *deep_things()):
            bad(self, "names", seen_without, TYPES, (0,), (INT,), names)
        bad(self, "names", seen_without, NUMBERS, (0,), (("zero",),), ("zero",))
        bad(self, "names", seen_without, NUMBERS, (0,), (("zero",),), ("box", "next"))
        self.assertEqual(seen_without(NUMBERS, (0,), (("zero",),), ("box",)), (("zero",),))

    def test_all_shapes(self):
        dice = random.Random(24)
        for signature in some_signatures(150, 24):
            names = [name for how, row in signature for name, _ in row if how == "open"]
            dice.shuffle(names)
            names = tuple(names[:dice.randint(0, 3)])
            kinds = tuple(dice.randrange(len(signature)) for _ in range(dice.randint(1, 6)))
            values = plain.some_values(signature, kinds, 2, dice)
            self.assertEqual(seen_without(signature, kinds, values, names),
                             plain.seen_without(signature, kinds, values, names))

    def test_exchanged_for_what_others_made_and_seen_without_it(self):
        dice = random.Random(25)
        for signature in some_signatures(100, 25):
            for kind in range(len(signature)):
                if not plain.is_open(signature, kind) or len(signature[kind][1]) == 4:
                    continue
                more = with_constructor(signature, kind, ("zz", (kind,)))
                kinds = (kind, 0)
                values = plain.some_values(signature, kinds, 3, dice)
                exchange = tuple((kind, number, ("zz", stranger(number % 2) if number < 2 else ("zz", stranger(5))))
                                 for number in range(3))
                seen = seen_without(more, kinds, exchanged(more, kinds, values, exchange), ("zz",))
                self.assertEqual(renumbered(signature, kinds, seen), renumbered(signature, kinds, values))


class FurtherShapes(unittest.TestCase):
    def test_finite_kinds_have_no_strangers(self):
        value = value_at(BIG, 2, 0, 9999)
        self.assertEqual(renumbered(BIG, (2,), (value,)), (value,))
        self.assertEqual(exchanged(BIG, (2,), (value,), ()), (value,))


if __name__ == "__main__":
    unittest.main()
