"""Points 174 to 181 and 183 to 186: a desk."""

import itertools
import random
import unittest

from closestfit.clear import is_clear
from closestfit.desk import Desk
from closestfit.errors import BadValue, NotPossible, TooLarge
from closestfit.evaluate import comes_to
from closestfit.journals import are_right, replayed
from closestfit.records import accepts_done, done_evidence
from tests import plain_cases, plain_programs
from tests.makers import crossing_table
from tests.plain_desk import PlainDesk, Refused
from tests.programs import EXAMPLE, ZERO, fitting_use, lively_program, number, nxt, small_use
from tests.samples import NOTHINGS, NUMBERS, TYPES, bad, chain, deep_things, not_possible, too_large
from tests.tables import LETTER_KINDS, LETTERS, QUARRELS

GENERICS = (("Add", (0, 0), 0),)
# The definitions of point 186.
FIRST = ("Add", (ZERO, 0), 0)
NEXT = ("Add", (nxt(0), 1), nxt(("Add", 0, 1)))
OTHER = ("Add", (0, ZERO), 0)
BOTH = ("Add", (ZERO, ZERO), ZERO)
ONE_AND_ZERO = ("Add", nxt(ZERO), ZERO)
INT = ("int",)


def define(*definition):
    return ("define", definition)


def told(function, *arguments):
    """What is told, or the word of the error."""
    try:
        return function(*arguments)
    except BadValue as error:
        return error.name
    except NotPossible as error:
        return error.why
    except TooLarge as error:
        return error.what
    except Refused as refused:
        return refused.args[0]


def state(desk):
    """All that a desk tells."""
    uses = desk.asked()
    words = tuple(told(desk.word, name) for name, _, _ in desk.program()[1])
    return (desk.program(), uses, desk.journal(), tuple(desk.answer(use) for use in uses),
            tuple(desk.evidence(use) for use in uses), words, desk.records())


def desk_with(signature, generics, *commands):
    desk = Desk(signature, generics)
    for command in commands:
        desk.act(command)
    return desk


def some_desks(many, seed):
    """Triples of dice, a desk and a plain one, both behind the same commands, which come one after another."""
    dice = random.Random(seed)
    for _ in range(many):
        programs = [lively_program(dice)]
        signature, generics, _ = programs[0]
        for _ in range(20):
            more = lively_program(dice)
            if more[:2] == (signature, generics):
                programs.append(more)
        pool = [row for program in programs for row in program[2]] + variations(programs[0], dice)
        if dice.random() < 0.5:
            pool = dice.sample(pool, min(len(pool), 7))
        desk, plain_desk = Desk(signature, generics), PlainDesk(signature, generics)
        uses = quarrelling_uses(programs[0], pool, dice)
        uses += [(fitting_use if dice.random() < 0.7 else small_use)(programs[0], dice) for _ in range(9)]
        for _ in range(dice.randint(4, 22)):
            yield dice, desk, plain_desk, some_command(plain_desk, pool, uses, dice)


def quarrelling_uses(program, pool, dice):
    """Some uses that two of the patterns match."""
    found = []
    for name, one, _ in pool:
        other = dice.choice([pattern for own, pattern, _ in pool if own == name])
        common = plain_cases.meet(one, other)
        if common not in (None, "large"):
            found.append(fitting_use((*program[:2], ((name, common, 0),)), dice))
    return [use for use in dice.sample(found, min(len(found), 6)) if plain_programs.is_use(program, use)]


def variations(program, dice):
    """Definitions with smaller or greater patterns, and with other bodies."""
    signature, generics, definitions = program
    found = [(name, pattern, dice.choice([row[2] for row in definitions])) for name, kinds, _ in generics if definitions
             for pattern in crossing_table(signature, kinds, dice, 3)]
    for name, pattern, body in definitions:
        kinds = [kinds for own, kinds, _ in generics if own == name][0]
        standing = plain_cases.kinds_of_variables(signature, kinds, pattern)
        for variable, kind in standing.items():
            same = [other for other, near in standing.items() if near == kind and other != variable]
            if same:
                new = plain_cases.numbered(plain_cases.put(pattern, {variable: same[0]}))
                found.append((name, new, new[0] if plain_programs.result_of(program, name) == kinds[0] else body))
        found.append((name, tuple(range(len(kinds))), body))
        found.append((name, pattern, dice.choice([row[2] for row in definitions])))
    return [row for row in found if plain_programs.is_program((signature, generics, (row,)))]


def are_crossing(one, other):
    """Whether two patterns meet and none of them is below the other one."""
    if plain_cases.meet(one, other) is None:
        return False
    return not plain_cases.is_below(one, other) and not plain_cases.is_below(other, one)


def some_command(desk, pool, uses, dice):
    way = dice.random()
    quarrelling = [row for row in pool for other in desk.program[2] if other[0] == row[0] and are_crossing(other[1], row[1])]
    if way < 0.25 and quarrelling:
        return ("define", dice.choice(quarrelling))
    if way < 0.4 and pool:
        return ("define", dice.choice(pool))
    if way < 0.7:
        fitting = [use for use in uses for near, far in itertools.combinations(desk.program[2], 2)
                   if are_crossing(near[1], far[1])
                   and all(row[0] == use[0] and plain_cases.match(row[1], use[1:]) is not None for row in (near, far))]
        return ("ask", dice.choice(fitting or uses))
    if desk.program[2] and dice.random() < 0.9:
        return ("drop", *dice.choice(desk.program[2])[:2])
    return ("drop", dice.choice(pool)[0], dice.choice(pool)[1]) if pool else ("ask", dice.choice(uses))


class Point186(unittest.TestCase):
    def test_the_example(self):
        desk = Desk(NUMBERS, GENERICS)
        self.assertEqual(desk.act(("define", FIRST)), ())
        self.assertEqual(desk.act(("ask", ONE_AND_ZERO)), (ONE_AND_ZERO,))
        self.assertEqual(desk.answer(ONE_AND_ZERO), ("none", (), ONE_AND_ZERO))
        self.assertEqual(desk.act(("define", NEXT)), (ONE_AND_ZERO,))
        self.assertEqual(desk.answer(ONE_AND_ZERO), ("value", nxt(ZERO)))
        self.assertEqual(desk.act(("define", OTHER)), (ONE_AND_ZERO,))
        self.assertEqual(desk.answer(ONE_AND_ZERO), ("two", (), ONE_AND_ZERO))
        self.assertEqual(desk.act(("define", BOTH)), ())
        self.assertEqual(desk.answer(ONE_AND_ZERO), ("two", (), ONE_AND_ZERO))
        self.assertEqual(desk.evidence(ONE_AND_ZERO), ("two", (), (), ONE_AND_ZERO, NEXT[1], OTHER[1]))
        self.assertEqual(desk.program(), (NUMBERS, GENERICS, (FIRST, NEXT, OTHER, BOTH)))
        self.assertEqual(desk.asked(), (ONE_AND_ZERO,))
        self.assertEqual(desk.word("Add"), "two")


class Point174(unittest.TestCase):
    def test_a_new_desk(self):
        desk = Desk(NUMBERS, GENERICS)
        self.assertEqual(state(desk), ((NUMBERS, GENERICS, ()), (), (), (), (), ("clear",), ()))
        self.assertIsNone(desk.undo())
        self.assertEqual(state(desk), state(Desk(NUMBERS, GENERICS)))
        self.assertEqual(Desk(TYPES, EXAMPLE[1]).program(), (TYPES, EXAMPLE[1], ()))

    def test_the_order_of_definitions_and_of_uses(self):
        uses = (("Add", ZERO, ZERO), ("Add", number(2), ZERO), ("Add", ZERO, number(1)))
        desk = desk_with(NUMBERS, GENERICS, ("define", NEXT), ("ask", uses[1]), ("define", FIRST), ("ask", uses[0]),
                         ("ask", uses[2]))
        self.assertEqual(desk.program(), (NUMBERS, GENERICS, (NEXT, FIRST)))
        self.assertEqual(desk.asked(), (uses[1], uses[0], uses[2]))
        desk.act(("drop", "Add", NEXT[1]))
        desk.act(("define", NEXT))
        self.assertEqual(desk.program()[2], (FIRST, NEXT))
        self.assertEqual(len(desk.journal()), 7)


class Point175(unittest.TestCase):
    def test_as_the_points_read(self):
        """Points 174 to 177 and 183 to 185."""
        words = {}
        anew = stays = 0
        for dice, desk, plain_desk, command in some_desks(60, 175):
            before = state(desk)
            right = told(plain_desk.act, command)
            found = told(desk.act, command)
            self.assertEqual(found, right)
            word = right if isinstance(right, str) else command[0]
            words[word] = words.get(word, 0) + 1
            if isinstance(right, str):
                self.assertEqual(state(desk), before)
                continue
            anew, stays = anew + len(right), stays + len(plain_desk.asked) - len(right)
            self.assertEqual(desk.program(), plain_desk.program)
            self.assertEqual(desk.asked(), plain_desk.asked)
            self.assertEqual(desk.journal(), tuple(plain_desk.journal))
            self.assertEqual(desk.records(), tuple(plain_desk.records))
            for use in plain_desk.asked:
                self.assertEqual(desk.evidence(use), plain_desk.kept[use])
                self.assertEqual(desk.answer(use), plain_desk.answer(use))
                self.check_answer(desk, use)
            for name in plain_programs.names_of(plain_desk.program):
                self.assertEqual(desk.word(name), plain_desk.word(name))
        for word in ("define", "ask", "drop", "alike", "missing", "asked"):
            self.assertGreater(words.get(word, 0), 10, word)
        self.assertGreater(min(anew, stays), 150)

    def check_answer(self, desk, use):
        """Point 177: the answer is that of the present program, whatever commands led to it."""
        found = comes_to(desk.program(), use)
        self.assertEqual(desk.answer(use), found if found[0] == "value" else found[:3])
        kept, right = desk.evidence(use), done_evidence(desk.program(), use)
        self.assertEqual(kept[:4], right[:4])
        self.assertIs(accepts_done(desk.program(), use, kept), True)
        if kept[0] != "two":
            self.assertEqual(kept, right)

    def refused(self, desk, why, *command):
        before = state(desk)
        not_possible(self, why, desk.act, command)
        self.assertEqual(state(desk), before)

    def test_each_reason(self):
        desk = desk_with(NUMBERS, GENERICS, ("define", FIRST), ("ask", ONE_AND_ZERO))
        self.refused(desk, "alike", "define", FIRST)
        # The same pattern with another body.
        self.refused(desk, "alike", "define", ("Add", FIRST[1], ZERO))
        self.refused(desk, "missing", "drop", "Add", NEXT[1])
        self.refused(desk, "asked", "ask", ONE_AND_ZERO)
        self.refused(Desk(NUMBERS, GENERICS), "missing", "drop", "Add", FIRST[1])
        # A pattern of more places than a definition can have.
        self.refused(desk, "missing", "drop", "Add", (chain("next", 14, 0), 1))
        # The pattern of another generic.
        desk = desk_with(NUMBERS, (*GENERICS, ("Sub", (0, 0), 0)), ("define", FIRST))
        self.refused(desk, "missing", "drop", "Sub", FIRST[1])
        desk.act(define("Sub", *FIRST[1:]))
        self.refused(desk, "alike", "define", ("Sub", FIRST[1], ZERO))

    def test_twelve_and_sixteen_definitions(self):
        generics = (("F", (0,), 0), ("G", (0,), 0))
        rows = [("F", (chain("next", many, ZERO),), ZERO) for many in range(11)] + [("F", (0,), 0)]
        more = [("G", (chain("next", many, ZERO),), ZERO) for many in range(6)]
        desk = desk_with(NUMBERS, generics, *[("define", row) for row in rows])
        self.assertEqual(len(desk.program()[2]), 12)
        self.refused(desk, "many", "define", ("F", (nxt(0),), 0))
        # Also alike: this reason comes first.
        self.refused(desk, "alike", "define", ("F", (0,), ZERO))
        for row in more[:4]:
            desk.act(("define", row))
        self.assertEqual(len(desk.program()[2]), 16)
        self.refused(desk, "many", "define", more[4])
        self.refused(desk, "alike", "define", more[0])
        desk.act(("drop", "F", (0,)))
        desk.act(("define", more[4]))
        self.assertEqual(len(desk.program()[2]), 16)
        self.refused(desk, "many", "define", more[5])

    def test_six_and_seven_uses(self):
        desk = desk_with(NUMBERS, GENERICS, *[("ask", ("Add", number(many), ZERO)) for many in range(6)])
        self.refused(desk, "many", "ask", ("Add", number(6), ZERO))
        self.refused(desk, "asked", "ask", ("Add", number(5), ZERO))
        desk.undo()
        desk.act(("ask", ("Add", number(6), ZERO)))
        self.assertEqual(len(desk.asked()), 6)

    def test_twenty_commands_and_one_more(self):
        desk = Desk(NUMBERS, GENERICS)
        for _ in range(10):
            desk.act(("define", FIRST))
            desk.act(("drop", "Add", FIRST[1]))
        self.assertEqual(len(desk.journal()), 20)
        self.refused(desk, "full", "define", FIRST)
        self.refused(desk, "full", "ask", ONE_AND_ZERO)
        self.refused(desk, "missing", "drop", "Add", FIRST[1])
        desk.undo()
        self.refused(desk, "alike", "define", FIRST)
        desk.act(("ask", ONE_AND_ZERO))
        self.refused(desk, "asked", "ask", ONE_AND_ZERO)
        self.refused(desk, "alike", "define", FIRST)
        self.refused(desk, "full", "drop", "Add", FIRST[1])

    def test_many_comes_before_full(self):
        desk = Desk(NUMBERS, GENERICS)
        for _ in range(7):
            desk.act(("define", FIRST))
            desk.act(("drop", "Add", FIRST[1]))
        for many in range(6):
            desk.act(("ask", ("Add", number(many), ZERO)))
        self.refused(desk, "many", "ask", ("Add", number(7), ZERO))
        self.refused(desk, "asked", "ask", ("Add", number(5), ZERO))
        self.refused(desk, "full", "define", FIRST)

    def test_wrong_commands(self):
        desk = desk_with(NUMBERS, GENERICS, ("define", FIRST), ("ask", ONE_AND_ZERO))
        before = state(desk)
        wrongs = (("define", None), ("define",), ("define", FIRST, ()), ("define", list(FIRST)), ("define", ("Add", FIRST[1])),
                  ("define", ("Sub", *FIRST[1:])),
                  ("define", ("Add", (ZERO,), ZERO)), ("define", ("Add", (0, 1), 2)), ("define", ("Add", (1, 0), 0)),
                  ("define", ("Add", (0, True), 0)),
                  ("define", ("Add", (chain("next", 11, ZERO), 0), 0)), ("define", ("Add", (0, 1), chain("next", 12, 0))),
                  ("define", ("Add", (0, 1), ("Sub", 0))), ["define", FIRST], ("Define", FIRST), ("ask", FIRST), ("ask",),
                  ("ask", ONE_AND_ZERO, 0),
                  ("ask", list(ONE_AND_ZERO)), ("ask", ("Add", ZERO)), ("ask", ("Add", 0, ZERO)),
                  ("ask", ("Add", ("#", 0), ZERO)), ["ask", ONE_AND_ZERO],
                  ("ask", ("Add", number(60), ZERO)), ("drop", "Add"), ("drop", "Sub", FIRST[1]), ("drop", "Add", list(FIRST[1])),
                  ("drop", "Add", (ZERO,)),
                  ("drop", "Add", (1, 0)), ("drop", "Add", (chain("next", 15, 0), 1)), ("drop", None, FIRST[1]),
                  ("drop", ("Add",), FIRST[1]),
                  ("drop", "Add", FIRST[1], FIRST[2]), ("drop", FIRST), (True, FIRST), ((), ()), ("undo",), "ask",
                  ("drop", "Add", (True, 0)))
        for wrong in (*wrongs, *NOTHINGS, *deep_things()):
            bad(self, "command", desk.act, wrong)
        for thing in deep_things():
            for wrong in (("define", thing), ("ask", thing), ("drop", "Add", thing), ("drop", thing, thing),
                          ("define", ("Add", thing, 0)),
                          ("define", ("Add", (0, 1), thing)), ("ask", ("Add", thing, ZERO)), (thing, FIRST)):
                bad(self, "command", desk.act, wrong)
        self.assertEqual(state(desk), before)
        # Wrong forms come before the reasons, also where the journal is full.
        for _ in range(9):
            desk.act(("define", NEXT))
            desk.act(("drop", "Add", NEXT[1]))
        bad(self, "command", desk.act, ("ask", ("Add", ZERO)))
        not_possible(self, "full", desk.act, ("ask", ("Add", number(59), ZERO)))


class Point176(unittest.TestCase):
    def test_too_large_changes_nothing(self):
        generics = (("F", (0,), 0), ("G", (0,), 0))
        grow, double = ("F", (0,), ("F", ("ptr", 0))), ("G", (0,), ("G", ("pair", 0, 0)))
        desk = desk_with(TYPES, generics, ("ask", ("F", INT)), ("ask", ("G", INT)))
        before = state(desk)
        too_large(self, "rows", desk.act, ("define", grow))
        too_large(self, "value", desk.act, ("define", double))
        self.assertEqual(state(desk), before)
        # It is raised where a use is asked, and where a definition is taken out.
        desk = desk_with(TYPES, generics, ("define", grow), ("define", ("F", (INT,), INT)), ("ask", ("F", INT)))
        before = state(desk)
        too_large(self, "rows", desk.act, ("ask", ("F", ("ptr", INT))))
        too_large(self, "rows", desk.act, ("drop", "F", (INT,)))
        self.assertEqual(state(desk), before)
        self.assertEqual(desk.answer(("F", INT)), ("value", INT))
        desk.act(("define", ("G", (0,), 0)))
        # In the order in which the uses were asked.
        both = desk_with(TYPES, generics, ("ask", ("G", INT)), ("ask", ("F", INT)), ("define", ("F", (0,), ("G", 0))))
        too_large(self, "value", both.act, ("define", double))
        two = desk_with(TYPES, (("F", (0, 0), 0),), ("ask", ("F", ("ptr", INT), INT)), ("ask", ("F", INT, INT)))
        body = ("F", 0, ("ptr", 1))
        too_large(self, "rows", two.act, define("F", (0, 1), body))
        two = desk_with(TYPES, (("F", (0, 0), 0),), define("F", (("ptr", 0), 1), ("F", ("ptr", 0), 1)), ("ask", ("F", INT, INT)))
        too_large(self, "rows", two.act, define("F", (0, 1), ("F", 0, ("ptr", 1))))

    def test_reasons_come_before_too_large(self):
        desk = desk_with(TYPES, (("F", (0,), 0),), ("define", ("F", (0,), ("F", ("ptr", 0)))), ("define", ("F", (INT,), INT)),
                         ("ask", ("F", INT)))
        not_possible(self, "alike", desk.act, ("define", ("F", (0,), 0)))
        not_possible(self, "missing", desk.act, ("drop", "F", (("ptr", 0),)))
        not_possible(self, "asked", desk.act, ("ask", ("F", INT)))
        while len(desk.journal()) < 19:
            desk.act(("define", ("F", (("ptr", 0),), 0)))
            desk.act(("drop", "F", (("ptr", 0),)))
        desk.act(("define", ("F", (("ptr", INT),), INT)))
        not_possible(self, "full", desk.act, ("drop", "F", (INT,)))

    def test_what_stays_and_what_is_done_anew(self):
        """Behind each of the three commands."""
        zero, one, two = [("Add", number(many), ZERO) for many in range(3)]
        desk = Desk(NUMBERS, GENERICS)
        for command, right in ((("ask", two), (two,)), (("ask", zero), (zero,)), (("define", FIRST), (zero,)),
                               (("ask", one), (one,)),
                               (("define", NEXT), (two, one)), (("define", BOTH), (two, zero, one)),
                               (("drop", "Add", FIRST[1]), ()),
                               (("drop", "Add", NEXT[1]), (two, one)), (("drop", "Add", BOTH[1]), (zero,)),
                               (("define", OTHER), (two, zero, one))):
            self.assertEqual(desk.act(command), right, command)
        self.assertEqual(desk.answer(two), ("value", number(2)))

    def test_with_two_the_patterns_can_stay_that_are_no_longer_told(self):
        """Three patterns quarrel; what is kept names two of them, and stays as long as both are there."""
        generics = (("F", (0, 0, 0), 0),)
        rows = [("F", (nxt(0), 1, 2), 0), ("F", (0, nxt(1), 2), 0), ("F", (0, 1, nxt(2)), 0)]
        use = ("F", nxt(ZERO), nxt(ZERO), nxt(ZERO))
        desk = desk_with(NUMBERS, generics, ("define", rows[1]), ("define", rows[2]), ("ask", use))
        kept = desk.evidence(use)
        self.assertEqual(kept, ("two", (), (), use, rows[1][1], rows[2][1]))
        self.assertEqual(desk.act(("define", rows[0])), ())
        self.assertEqual(desk.evidence(use), kept)
        desk.act(("drop", "F", rows[1][1]))
        self.assertEqual(desk.evidence(use), ("two", (), (), use, rows[2][1], rows[0][1]))
        self.assertEqual(desk.act(("define", rows[1])), ())
        self.assertEqual(desk.program()[2], (rows[2], rows[0], rows[1]))
        self.assertEqual(desk.act(("drop", "F", rows[1][1])), ())
        # Below one of the two that are named: they still quarrel, but others would be told. Below both: not.
        self.assertEqual(desk.act(define("F", (nxt(ZERO), 0, 1), 0)), ())
        self.assertEqual(done_evidence(desk.program(), use)[4:], (rows[2][1], (nxt(ZERO), 0, 1)))
        self.assertEqual(desk.evidence(use)[4:], (rows[2][1], rows[0][1]))
        self.assertEqual(desk.answer(use), ("two", (), use))
        self.assertEqual(desk.act(define("F", (nxt(0), 1, nxt(2)), 0)), (use,))
        self.assertIs(accepts_done(desk.program(), use, desk.evidence(use)), True)

    def test_two_of_four_patterns(self):
        """Where the told numbers become others, what is kept stays."""
        generics = (("F", (0, 0), 0),)
        use = ("F", nxt(ZERO), nxt(ZERO))
        desk = desk_with(NUMBERS, generics, define("F", (0, 0), 0), define("F", (nxt(0), 1), 0), ("ask", use))
        kept = desk.evidence(use)
        self.assertEqual(desk.act(define("F", (0, nxt(ZERO)), 0)), ())
        self.assertEqual(desk.act(define("F", (nxt(0), nxt(0)), 0)), (use,))
        self.assertNotEqual(desk.evidence(use), kept)

    def test_bodies_that_change(self):
        """A definition is taken out and put in again with another body."""
        desk = desk_with(NUMBERS, GENERICS, ("define", FIRST), ("ask", ("Add", ZERO, nxt(ZERO))))
        desk.act(("drop", "Add", FIRST[1]))
        self.assertEqual(desk.act(define("Add", FIRST[1], ZERO)), (("Add", ZERO, nxt(ZERO)),))
        self.assertEqual(desk.answer(("Add", ZERO, nxt(ZERO))), ("value", ZERO))


class Points177To180(unittest.TestCase):
    def test_other_commands_that_lead_to_the_same(self):
        """Point 177."""
        many = 0
        for dice, desk, plain_desk, command in some_desks(25, 177):
            told(desk.act, command)
            told(plain_desk.act, command)
            definitions = list(desk.program()[2])
            dice.shuffle(definitions)
            other = desk_with(*desk.program()[:2])
            commands = [("define", row) for row in definitions] + [("ask", use) for use in desk.asked()]
            dice.shuffle(commands)
            if len(commands) <= 20 and not any(isinstance(told(other.act, each), str) for each in commands):
                for use in desk.asked():
                    self.assertEqual(other.answer(use), desk.answer(use))
                    many += 1
        self.assertGreater(many, 200)

    def test_what_does_not_stay(self):
        """Point 178: of these words no evidence that was accepted before is accepted behind the command."""
        many = 0
        for dice, desk, plain_desk, command in some_desks(90, 178):
            before = {use: desk.evidence(use) for use in desk.asked()}
            fresh = told(desk.act, command)
            told(plain_desk.act, command)
            for use in before if not isinstance(fresh, str) else ():
                stays = accepts_done(desk.program(), use, before[use])
                self.assertIs(stays, use not in fresh)
                if use in fresh and before[use][0] == "value" and len(before[use][1]) > 1:
                    rows = list(before[use][1][:-1])
                    dice.shuffle(rows)
                    other = ("value", (*rows, before[use][1][-1]))
                    self.assertIs(accepts_done(desk.program(), use, other), False)
                    many += 1
        self.assertGreater(many, 3)

    def test_a_definition_that_goes_and_comes(self):
        """Point 179."""
        many = 0
        for dice, desk, plain_desk, command in some_desks(40, 179):
            before, answers = desk.program(), [desk.answer(use) for use in desk.asked()]
            if command[0] == "define" and not isinstance(told(desk.act, command), str):
                if not isinstance(told(desk.act, ("drop", *command[1][:2])), str):
                    self.assertEqual((desk.program(), [desk.answer(use) for use in desk.asked()]), (before, answers))
                    many += 1
                    desk.undo()
                desk.undo()
            if command[0] == "drop" and not isinstance(told(desk.act, command), str):
                row = [row for row in before[2] if row[:2] == command[1:]][0]
                if not isinstance(told(desk.act, ("define", row)), str):
                    self.assertEqual([desk.answer(use) for use in desk.asked()], answers)
                    self.assertEqual(sorted(map(repr, desk.program()[2])), sorted(map(repr, before[2])))
                    many += 1
                    desk.undo()
                desk.undo()
            self.assertEqual(told(desk.act, command), told(plain_desk.act, command))
        self.assertGreater(many, 100)

    def test_what_is_not_done_anew(self):
        """Point 180."""
        many = 0
        for _, desk, plain_desk, command in some_desks(60, 180):
            before = {use: desk.evidence(use) for use in desk.asked()}
            fresh = told(desk.act, command)
            told(plain_desk.act, command)
            if isinstance(fresh, str):
                continue
            for use, kept in before.items():
                pairs = [row[:2] for row in kept[1]] + (list(kept[2]) + [(kept[3], None)] if len(kept) > 2 else [])
                if command[0] == "define":
                    name, pattern, _ = command[1]
                    touched = any(one[0] == name and plain_cases.match(pattern, one[1:]) is not None for one, _ in pairs)
                elif command[0] == "drop":
                    touched = any((one[0], beside) == command[1:] for one, beside in pairs)
                    touched = touched or (kept[0] == "two" and kept[3][0] == command[1] and command[2] in kept[4:])
                else:
                    touched = False
                if not touched:
                    self.assertNotIn(use, fresh)
                    many += 1
                # Whether it stays is told by point 108.
                self.assertEqual(use not in fresh, stays_by_the_point(plain_desk.program[2], command, kept))
        self.assertGreater(many, 150)


def stays_by_the_point(definitions, command, kept):
    """Point 108."""
    pairs = [row[:2] for row in kept[1]] + (list(kept[2]) if len(kept) > 2 else [])
    last = kept[3] if len(kept) > 2 else None
    if command[0] == "ask":
        return True
    if command[0] == "drop":
        if any((one[0], beside) == command[1:] for one, beside in pairs):
            return False
        return not (kept[0] == "two" and last[0] == command[1] and command[2] in kept[4:])
    name, pattern, _ = command[1]
    for one, beside in pairs:
        if one[0] == name and plain_cases.match(pattern, one[1:]) is not None and not plain_cases.is_below(beside, pattern):
            return False
    if last is None or last[0] != name or kept[0] == "round":
        return True
    if plain_cases.match(pattern, last[1:]) is None:
        return True
    return kept[0] == "two" and not all(plain_cases.is_below(pattern, named) for named in kept[4:])


class Point181(unittest.TestCase):
    def test_undo(self):
        """Behind each command; everything is as it was, also the evidence that was kept."""
        undone = 0
        for dice, desk, plain_desk, command in some_desks(50, 181):
            before = state(desk)
            if not isinstance(told(desk.act, command), str):
                self.assertEqual(desk.undo(), command)
                self.assertEqual(state(desk), before)
                undone += 1
            self.assertEqual(told(desk.act, command), told(plain_desk.act, command))
            if dice.random() < 0.15 and desk.journal():
                states = []
                for _ in range(dice.randint(1, 4)):
                    if desk.journal():
                        states.append((desk.journal()[-1], state(desk)))
                        self.assertEqual(desk.undo(), states[-1][0])
                for each, after in states[::-1]:
                    desk.act(each)
                    self.assertEqual(state(desk), after)
        self.assertGreater(undone, 200)

    def test_undo_to_the_beginning(self):
        desk = desk_with(NUMBERS, GENERICS, ("define", FIRST), ("ask", ONE_AND_ZERO), ("define", NEXT), ("drop", "Add", FIRST[1]))
        for right in (("drop", "Add", FIRST[1]), ("define", NEXT), ("ask", ONE_AND_ZERO), ("define", FIRST), None, None):
            self.assertEqual(desk.undo(), right)
        self.assertEqual(state(desk), state(Desk(NUMBERS, GENERICS)))

    def test_undo_keeps_the_evidence_that_was_kept(self):
        """With "two" the told evidence is another one; behind undo it is the kept one again."""
        generics = (("F", (0, 0, 0), 0),)
        rows = [("F", (nxt(0), 1, 2), 0), ("F", (0, nxt(1), 2), 0), ("F", (0, 1, nxt(2)), 0)]
        use = ("F", nxt(ZERO), nxt(ZERO), nxt(ZERO))
        desk = desk_with(NUMBERS, generics, *[("define", row) for row in rows], ("ask", use), ("drop", "F", rows[0][1]),
                         ("define", rows[0]))
        kept = desk.evidence(use)
        self.assertEqual(kept[4:], (rows[1][1], rows[2][1]))
        desk.act(("drop", "F", rows[1][1]))
        self.assertEqual(desk.evidence(use)[4:], (rows[2][1], rows[0][1]))
        desk.undo()
        self.assertEqual(desk.evidence(use), kept)

    def test_twins(self):
        """They tell the same, and go on by themselves."""
        for dice, desk, plain_desk, command in some_desks(30, 1811):
            twin = desk.twin()
            self.assertIsInstance(twin, Desk)
            before = state(desk)
            self.assertEqual(state(twin), before)
            found = told(twin.act, command)
            after = state(twin)
            self.assertEqual(state(desk), before)
            self.assertEqual(told(desk.act, command), found)
            self.assertEqual(state(desk), after)
            twin.undo()
            twin.undo()
            self.assertEqual(state(desk), after)
            told(plain_desk.act, command)
        empty = Desk(NUMBERS, GENERICS)
        other = empty.twin()
        empty.act(("define", FIRST))
        self.assertEqual(state(other), state(Desk(NUMBERS, GENERICS)))
        self.assertIsNone(other.undo())

    def test_a_desk_that_is_replayed_tells_the_same(self):
        for dice, desk, plain_desk, command in some_desks(30, 1812):
            told(desk.act, command)
            told(plain_desk.act, command)
            if dice.random() < 0.2:
                self.assertEqual(state(replayed(*desk.program()[:2], desk.journal())), state(desk))


class Point183(unittest.TestCase):
    def test_records(self):
        desk = Desk(NUMBERS, GENERICS)
        zero = ("Add", ZERO, ZERO)
        commands = (("ask", ONE_AND_ZERO), ("ask", zero), ("define", NEXT), ("define", FIRST))
        for command in commands:
            desk.act(command)
        none, value = ("none", (), (), ONE_AND_ZERO), done_evidence(desk.program(), ONE_AND_ZERO)
        none_of_zero = ("none", (), (), zero)
        behind = ("none", (), ((ONE_AND_ZERO, NEXT[1]),), zero)
        self.assertEqual(desk.records(), ((commands[0], ((0, none),)), (commands[1], ((1, none_of_zero),)),
                                          (commands[2], ((0, behind),)),
                                          (commands[3], ((0, value), (1, done_evidence(desk.program(), zero))))))
        self.assertIs(are_right(NUMBERS, GENERICS, desk.records()), True)

    def test_records_of_desks_are_right(self):
        for dice, desk, plain_desk, command in some_desks(30, 183):
            told(desk.act, command)
            told(plain_desk.act, command)
            if dice.random() < 0.3:
                self.assertIs(are_right(*desk.program()[:2], desk.records()), True)


class Point184(unittest.TestCase):
    def test_words(self):
        desk = desk_with(NUMBERS, (*GENERICS, ("Sub", (0, 0), 0)), ("define", FIRST), ("define", OTHER))
        self.assertEqual((desk.word("Add"), desk.word("Sub")), ("two", "clear"))
        desk.act(("define", BOTH))
        self.assertEqual((desk.word("Add"), desk.word("Sub")), ("clear", "clear"))
        desk.act(define("Sub", (nxt(0), 1), 0))
        desk.act(define("Sub", (0, nxt(1)), 0))
        self.assertEqual((desk.word("Add"), desk.word("Sub")), ("clear", "two"))
        desk.undo()
        self.assertEqual(desk.word("Sub"), "clear")

    def test_where_it_is_clear_no_answer_has_two(self):
        many = 0
        for _, desk, plain_desk, command in some_desks(50, 184):
            told(desk.act, command)
            told(plain_desk.act, command)
            for use in desk.asked():
                answer = desk.answer(use)
                if answer[0] == "two":
                    self.assertEqual(desk.word(answer[2][0]), "two")
                    many += 1
            for name, kinds, _ in desk.program()[1]:
                table = plain_programs.patterns_of(desk.program(), name)
                self.assertEqual(desk.word(name), "clear" if is_clear(desk.program()[0], kinds, table) else "two")
        self.assertGreater(many, 30)

    def test_too_large(self):
        """As is_clear raises it."""
        generics = (("F", (0, 0, 0), 0),)
        wide = ((0, ("pair", 0, ("pair", 0, 0)), ("pair", 0, 0)), (chain("ptr", 9, 0), 1, 2))
        self.assertEqual(told(is_clear, TYPES, generics[0][1], wide), "terms")
        desk = desk_with(TYPES, generics, *[define("F", pattern, INT) for pattern in wide])
        too_large(self, "terms", desk.word, "F")
        # Nothing else is in the way of such a table.
        self.assertEqual(desk.act(("ask", ("F", INT, INT, INT))), (("F", INT, INT, INT),))
        for leaves, word in ((300, None), (301, "cases")):
            right = told(is_clear, LETTERS, LETTER_KINDS, QUARRELS[leaves])
            desk = desk_with(LETTERS, (("F", LETTER_KINDS, 0),), *[define("F", row, ("la",)) for row in QUARRELS[leaves]])
            self.assertEqual(told(desk.word, "F"), word or ("clear" if right else "two"))
            self.assertEqual(right if word else isinstance(right, bool), word or True)

    def test_wrong_names(self):
        desk = Desk(NUMBERS, GENERICS)
        for wrong in (*NOTHINGS, *deep_things(), "add", "Sub", "", "Ad", ("Add",), ["Add"], b"Add"):
            bad(self, "name", desk.word, wrong)


class Point185(unittest.TestCase):
    def test_the_first_wrong_argument_is_named(self):
        for wrong in (*NOTHINGS, *deep_things(), list(NUMBERS)):
            bad(self, "signature", Desk, wrong, None)
            bad(self, "signature", Desk, wrong, GENERICS)
            bad(self, "generics", Desk, NUMBERS, wrong)
        for wrong in ((("Add", (0, 0), 0),) * 2, (("Add", (0, 2), 0),), (("Add", (0,), 2),), (("add", (0,), 0),),
                      (("Add", (), 0),), (("Add", (0,) * 4, 0),),
                      (("Add", [0], 0),), (["Add", (0,), 0],), (("Add", (True,), 0),), (("Add", (0,), False),),
                      (("Abcdefghi", (0,), 0),),
                      tuple((name, (0,), 0) for name in "ABCDE"), (("Add", (0,)),), [("Add", (0,), 0)]):
            bad(self, "generics", Desk, NUMBERS, wrong)

    def test_uses(self):
        desk = desk_with(NUMBERS, GENERICS, ("define", FIRST), ("ask", ONE_AND_ZERO))
        for wrong in (*NOTHINGS, *deep_things(), ("Add", ZERO), ("Add", ZERO, 0), ("Sub", ZERO, ZERO), list(ONE_AND_ZERO),
                      ("Add", ("#", 0), ZERO),
                      ("Add", number(60), ZERO), ("Add", ZERO, ZERO, ZERO)):
            bad(self, "use", desk.answer, wrong)
            bad(self, "use", desk.evidence, wrong)
        for use in (("Add", ZERO, ZERO), ("Add", number(59), number(59))):
            not_possible(self, "missing", desk.answer, use)
            not_possible(self, "missing", desk.evidence, use)
        desk.undo()
        not_possible(self, "missing", desk.answer, ONE_AND_ZERO)

    def test_what_is_told_is_of_tuples(self):
        """Points 2 and 3."""
        desk = desk_with(NUMBERS, GENERICS, ("define", FIRST), ("ask", ONE_AND_ZERO))
        for found in (desk.program(), desk.asked(), desk.journal(), desk.records(), desk.answer(ONE_AND_ZERO),
                      desk.evidence(ONE_AND_ZERO)):
            self.assertIsInstance(found, tuple)
        self.assertIsInstance(desk.act(("define", NEXT)), tuple)


if __name__ == "__main__":
    unittest.main()
