"""Points 181 to 183 and 185: journals that are replayed, and records that are right."""

import unittest

from closestfit.desk import Desk
from closestfit.journals import are_right, replayed
from closestfit.records import accepts_done, done_evidence
from tests import plain_desk
from tests.makers import much_changed
from tests.plain_desk import PlainDesk
from tests.programs import ZERO, number, nxt
from tests.samples import NOTHINGS, NUMBERS, TYPES, bad, deep_things, not_possible, too_large
from tests.test_desk import BOTH, FIRST, GENERICS, INT, NEXT, ONE_AND_ZERO, OTHER, define, desk_with, some_desks, state, told

ZEROS = ("Add", ZERO, ZERO)
JOURNAL = (("define", FIRST), ("ask", ONE_AND_ZERO), ("define", NEXT), ("ask", ZEROS), ("define", OTHER),
           ("drop", "Add", OTHER[1]))


def some_records(many, seed):
    """Pairs of dice and a desk with records."""
    for dice, desk, plain, command in some_desks(many, seed):
        told(desk.act, command)
        told(plain.act, command)
        if desk.records() and dice.random() < 0.2:
            yield dice, desk


class Point181(unittest.TestCase):
    def test_journals_are_replayed_from_each_beginning(self):
        desk = Desk(NUMBERS, GENERICS)
        for many in range(len(JOURNAL) + 1):
            other = replayed(NUMBERS, GENERICS, JOURNAL[:many])
            self.assertIsInstance(other, Desk)
            self.assertEqual(state(other), state(desk))
            if many < len(JOURNAL):
                desk.act(JOURNAL[many])
        self.assertEqual(state(replayed(NUMBERS, GENERICS, ())), state(Desk(NUMBERS, GENERICS)))

    def test_each_beginning_of_many_journals(self):
        for _, desk in some_records(40, 181):
            journal = desk.journal()
            other = replayed(*desk.program()[:2], journal)
            self.assertEqual(state(other), state(desk))
            for many in range(len(journal) - 1, -1, -4):
                while len(other.journal()) > many:
                    other.undo()
                self.assertEqual(state(other), state(replayed(*desk.program()[:2], journal[:many])))

    def test_a_replayed_desk_goes_on_by_itself(self):
        one, other = replayed(NUMBERS, GENERICS, JOURNAL), replayed(NUMBERS, GENERICS, JOURNAL)
        one.undo()
        self.assertNotEqual(state(one), state(other))
        other.undo()
        self.assertEqual(state(one), state(other))


class Point182(unittest.TestCase):
    def right(self, records, expected=True, signature=NUMBERS, generics=GENERICS):
        self.assertIs(are_right(signature, generics, records), expected)
        self.assertIs(plain_desk.are_right(signature, generics, records), expected)

    def test_no_records_and_one(self):
        self.right(())
        self.right(((("define", FIRST), ()),))
        self.right(((("ask", ZEROS), ((0, ("none", (), (), ZEROS)),)),))
        self.right(((("ask", ZEROS), ()),), False)

    def test_evidence_that_stays_need_not_be_brought_and_may_be(self):
        records = desk_with(NUMBERS, GENERICS, *JOURNAL).records()
        self.right(records)
        value = records[2][1][0][1]
        self.assertEqual(value[0], "value")
        self.right((*records[:3], (records[3][0], ((0, value), *records[3][1])), *records[4:]))
        self.right((*records[:3], (records[3][0], (*records[3][1], (0, value))), *records[4:]), False)
        # What is left out and does not stay; and what does not stay behind a later command.
        for at, record in enumerate(records):
            for number in range(len(record[1])):
                fresh = record[1][:number] + record[1][number + 1:]
                self.right((*records[:at], (record[0], fresh), *records[at + 1:]), False)
                self.right((*records[:at], (record[0], fresh)), False)
        for many in range(len(records)):
            self.right(records[:many])
            self.right(records[many:], many == 0)

    def test_any_accepted_evidence_will_do(self):
        """With more rows, in another order."""
        generics = (("F", (0,), 0),)
        use = ("F", nxt(ZERO))
        rows = ((("F", ZERO), (ZERO,), ZERO), (use, (nxt(0),), nxt(ZERO)))
        commands = (define("F", (ZERO,), ZERO), define("F", (nxt(0),), nxt(("F", 0))), ("ask", use))
        told_value = ("value", rows)
        self.assertEqual(desk_with(NUMBERS, generics, *commands).evidence(use), told_value)
        for value, expected in ((told_value, True), (("value", rows[1:]), False), (("value", rows[::-1]), False),
                                (None, False),
                                (("value", (rows[0], (("F", number(2)), (nxt(0),), number(2)), rows[1])), False)):
            records = ((commands[0], ()), (commands[1], ()), (commands[2], ((0, value),)))
            self.right(records, expected, NUMBERS, generics)
        other = (("G", ZERO), (0,), ZERO)
        generics = (*generics, ("G", (0,), 0))
        records = ((commands[0], ()), (commands[1], ()), (define("G", (0,), 0), ()),
                   (commands[2], ((0, ("value", (other, *rows))),)))
        self.right(records, True, NUMBERS, generics)
        # The desk itself does not do this use, and takes the row out of what is accepted.
        self.right((*records, (("drop", "G", (0,)), ())), False, NUMBERS, generics)
        self.right((*records, (("drop", "G", (0,)), ((0, told_value),))), True, NUMBERS, generics)

    def test_with_two_other_patterns_can_be_named(self):
        generics = (("F", (0, 0, 0), 0),)
        rows = [("F", (nxt(0), 1, 2), 0), ("F", (0, nxt(1), 2), 0), ("F", (0, 1, nxt(2)), 0)]
        use = ("F", nxt(ZERO), nxt(ZERO), nxt(ZERO))
        ahead = tuple((("define", row), ()) for row in rows)
        for one, other in ((0, 1), (0, 2), (1, 2), (2, 1)):
            value = ("two", (), (), use, rows[one][1], rows[other][1])
            self.right((*ahead, (("ask", use), ((0, value),))), True, NUMBERS, generics)
            for gone in range(3):
                records = (*ahead, (("ask", use), ((0, value),)), (("drop", "F", rows[gone][1]), ()))
                self.right(records, gone not in (one, other), NUMBERS, generics)

    def test_numbers_of_uses(self):
        none = [("none", (), (), ("Add", number(many), ZERO)) for many in range(3)]
        asks = [(("ask", ("Add", number(many), ZERO)), ((many, none[many]),)) for many in range(3)]
        self.right(tuple(asks))
        last = ("ask", ("Add", number(2), ZERO))
        for fresh, expected in ((((0, none[0]), (1, none[1]), (2, none[2])), True), (((1, none[1]), (2, none[2])), True),
                                (((2, none[2]),), True),
                                (((2, none[2]), (1, none[1])), False), (((2, none[2]), (2, none[2])), False),
                                (((2, none[1]),), False),
                                (((1, none[2]), (2, none[2])), False), (((2, none[2]), (3, none[2])), False),
                                (((3, none[2]),), False),
                                (((-1, none[2]),), False), (((True, none[1]), (2, none[2])), False),
                                (((False, none[0]), (2, none[2])), False),
                                ([(2, none[2])], False), (([2, none[2]],), False), (((2, none[2], ()),), False),
                                ((2, none[2]), False), ((), False),
                                (None, False), (((None, none[2]),), False), (((2, list(none[2])),), False)):
            self.right((*asks[:2], (last, fresh)), expected)

    def test_commands_that_are_no_commands_or_not_possible(self):
        none = ("none", (), (), ZEROS)
        first = (("define", FIRST), ())
        for records, expected in (((first, first), False), ((first, (("drop", "Add", FIRST[1]), ())), True),
                                  (((("drop", "Add", FIRST[1]), ()),), False),
                                  (((("ask", ZEROS), ((0, none),)), (("ask", ZEROS), ((0, none),))), False),
                                  (((["define", FIRST], ()),), False),
                                  (((("define", FIRST), ), ()), False), (((("define", FIRST), (), ()),), False), ([first], False),
                                  (([*first],), False),
                                  (((("define", ("Sub", *FIRST[1:])), ()),), False), (((("ask", ("Add", ZERO)), ()),), False),
                                  (first, False)):
            self.right(records, expected)

    def test_twenty_records_and_one_more(self):
        pair = ((("define", FIRST), ()), (("drop", "Add", FIRST[1]), ()))
        self.right(pair * 10)
        self.right((*pair * 10, pair[0]), False)
        self.right(pair * 50, False)

    def test_six_and_seven_uses(self):
        uses = [("Add", number(many), ZERO) for many in range(7)]
        asks = tuple((("ask", use), ((many, ("none", (), (), use)),)) for many, use in enumerate(uses))
        self.right(asks[:6])
        self.right(asks, False)

    def test_as_the_point_reads(self):
        rights = wrongs = 0
        for dice, desk in some_records(60, 182):
            signature, generics, _ = desk.program()
            records = desk.records()
            self.right(records, True, signature, generics)
            values = much_changed(records, dice, 4)
            for _ in range(4):
                values.append(tuple((command, tuple(pair for pair in fresh if dice.random() < 0.9))
                                    for command, fresh in records))
            short = list(records)
            dice.shuffle(short)
            values += [tuple(short), records[1:], records[:-1]]
            for value in values:
                expected = plain_desk.are_right(signature, generics, value)
                self.assertIs(are_right(signature, generics, value), expected)
                rights, wrongs = rights + expected, wrongs + (not expected)
        self.assertGreater(min(rights, wrongs), 100)

    def test_whatever_is_judged(self):
        for value in (*NOTHINGS, *deep_things()):
            self.assertIs(are_right(NUMBERS, GENERICS, value), value == ())
            for records in ((value,), ((value, ()),), ((("define", FIRST), value),), ((("define", value), ()),),
                            ((("ask", value), ()),),
                            ((("drop", "Add", value), ()),), ((("drop", value, value), ()),), ((("ask", ZEROS), ((0, value),)),),
                            ((("ask", ZEROS), value),), ((("ask", ZEROS), ((value, ("none", (), (), ZEROS)),)),),
                            ((("ask", ZEROS), (value,)),),
                            ((("ask", ZEROS), ((0, ("none", value, (), ZEROS)),)),),
                            ((("ask", ZEROS), ((0, ("none", (), value, ZEROS)),)),),
                            ((("ask", ZEROS), ((0, ("none", (), (), value)),)),), ((("ask", ("Add", value, ZERO)), ()),)):
                right = value in NOTHINGS[:10] and plain_desk.are_right(NUMBERS, GENERICS, records)
                self.assertIs(are_right(NUMBERS, GENERICS, records), right)


class Point183(unittest.TestCase):
    def test_whatever_records_are_right_bring_what_is_done_anew(self):
        """Of a use whose evidence was not one with "two"."""
        many = 0
        for _, desk in some_records(60, 183):
            signature, generics, _ = desk.program()
            records = desk.records()
            for at, (command, fresh) in enumerate(records):
                before = replayed(signature, generics, desk.journal()[:at])
                for pair in fresh:
                    use = replayed(signature, generics, desk.journal()[:at + 1]).asked()[pair[0]]
                    kept = before.evidence(use) if use in before.asked() else None
                    if kept is None or kept[0] != "two":
                        less = (command, tuple(other for other in fresh if other != pair))
                        self.assertIs(are_right(signature, generics, (*records[:at], less)), False)
                        many += 1
        self.assertGreater(many, 100)


class Point185(unittest.TestCase):
    def test_the_first_wrong_argument_is_named(self):
        for function in (replayed, are_right):
            for wrong in (*NOTHINGS, *deep_things(), list(NUMBERS)):
                bad(self, "signature", function, wrong, None, None)
                bad(self, "generics", function, NUMBERS, wrong, None)
        for wrong in (None, True, 0, "journal", [], list(JOURNAL), (None,), (JOURNAL[0], None), (list(JOURNAL[0]),),
                      (JOURNAL[0], "ask"), {},
                      JOURNAL[:1] * 21, ((),) * 21, (0,), JOURNAL[0]):
            bad(self, "journal", replayed, NUMBERS, GENERICS, wrong)

    def test_replayed_raises_what_its_commands_raise(self):
        bad(self, "command", replayed, NUMBERS, GENERICS, ((),))
        bad(self, "command", replayed, NUMBERS, GENERICS, (JOURNAL[0], ("ask", 0)))
        not_possible(self, "alike", replayed, NUMBERS, GENERICS, (JOURNAL[0], JOURNAL[0], ("ask", 0)))
        not_possible(self, "missing", replayed, NUMBERS, GENERICS, (("drop", "Add", FIRST[1]),))
        not_possible(self, "asked", replayed, NUMBERS, GENERICS, (("ask", ZEROS), ("ask", ZEROS)))
        not_possible(self, "many", replayed, NUMBERS, GENERICS, tuple(("ask", ("Add", number(many), ZERO)) for many in range(7)))
        grow = define("F", (0,), ("F", ("ptr", 0)))
        too_large(self, "rows", replayed, TYPES, (("F", (0,), 0),), (("ask", ("F", INT)), grow, grow))
        self.assertEqual(len(replayed(NUMBERS, GENERICS, (JOURNAL[0], ("drop", "Add", FIRST[1])) * 10).journal()), 20)
        for thing in deep_things():
            if isinstance(thing, tuple):
                bad(self, "command", replayed, NUMBERS, GENERICS, (thing,))

    def test_a_judge_raises_nothing(self):
        """Where a use would be too large to be done, evidence about it is just not accepted."""
        generics = (("F", (0,), 0),)
        use = ("F", INT)
        records = ((define("F", (0,), ("F", ("ptr", 0))), ()), (("ask", use), ((0, ("none", (), (), use)),)))
        self.assertIs(are_right(TYPES, generics, records), False)
        self.assertIs(are_right(TYPES, generics, records[:1]), True)
        desk = desk_with(NUMBERS, GENERICS, ("define", BOTH), ("ask", ZEROS))
        self.assertIs(accepts_done(desk.program(), ZEROS, done_evidence(desk.program(), ZEROS)), True)
        self.assertEqual(PlainDesk(NUMBERS, GENERICS, desk.journal()).records, list(desk.records()))


if __name__ == "__main__":
    unittest.main()
