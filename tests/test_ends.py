"""Points 113 to 126: rows without end in flat programs."""

import itertools
import random
import unittest

from closestfit.clear import is_complete
from closestfit.ends import (accepts_ends, accepts_rows, always_value, edges, ends_evidence, facts, following, rows_evidence)
from closestfit.evaluate import comes_to
from closestfit.programs import first_unflat, is_program
from tests import plain, plain_cases, plain_programs, plain_rows
from tests.makers import much_changed
from tests.programs import (EXAMPLE, LISTS, TREES, ZERO, fitting_use, lively_program, number, nxt, small_use, some_programs)
from tests.samples import NOTHINGS, NUMBERS, TYPES, bad, chain, deep_things, not_possible
from tests.test_clear import told_or_word

INT = ("int",)
# Point 126.
FGH = (NUMBERS, (("F", (0,), 0), ("G", (0,), 0), ("H", (0,), 0)),
       (("F", (nxt(0),), ("G", nxt(nxt(0)))), ("G", (nxt(0),), ("H", 0)), ("H", (nxt(0),), ("F", 0))))
GROW = ((("open", (("int", ()), ("ptr", (0,)))),), (("Grow", (0,), 0),), (("Grow", (0,), ("Grow", ("ptr", 0))),))
ONES = (("closed", (("one", (0,)), ("two", (0,)), ("end", ()))),)
P = (ONES, (("P", (0,), 0),), (("P", (("two", 0),), ("P", ("one", ("one", ("two", 0))))), ("P", (("one", 0),), ("P", 0))))


def one(term):
    return ("one", term)


def two(term):
    return ("two", term)


def rising_program(dice):
    """A flat program whose uses mostly get greater first arguments, of which other uses take away."""
    signature = dice.choice((ONES, TREES, LISTS, GROW[0], NUMBERS[:1]))
    names = dice.sample(("F", "G", "Ha", "K"), dice.randint(1, 4))
    kinds = {name: dice.randrange(len(signature)) for name in names}
    found = []

    def term(kind, parts, depth):
        known = [v for v, near in parts.items() if near == kind]
        fitting = [(own, inner) for own, inner in signature[kind][1] if depth or not inner]
        if known and (not fitting or dice.random() < 0.5 or not depth):
            return dice.choice(known)
        if not fitting:
            return None
        own, inner = dice.choice(fitting)
        made = [term(part, parts, depth - 1) for part in inner]
        return None if None in made else (own, *made)
    for name in names:
        rows = [(own, parts) for own, parts in signature[kinds[name]][1] if dice.random() < 0.8]
        if dice.random() < 0.3:
            rows.append((None, (kinds[name],)))
        for own, parts in rows:
            pattern = 0 if own is None else (own, *range(len(parts)))
            other = dice.choice(names)
            first = term(kinds[other], dict(enumerate(parts)), dice.randint(0, 3))
            body = None if first is None else (other, first)
            if body is not None and plain_programs.body_places(body) <= 12:
                found.append((name, (pattern,), body))
    program = (signature, tuple((name, (kinds[name],), 0) for name in names), tuple(found))
    assert is_program(program), program
    return program


def some_flat(many, seed):
    """Pairs of dice and a flat program."""
    dice = random.Random(seed)
    for at in range(many):
        program = rising_program(dice) if at % 3 else lively_program(dice, flat=True)
        if first_unflat(program) is None:
            yield dice, program
    for _, program in some_programs(many // 4, seed, flat=True):
        if first_unflat(program) is None:
            yield dice, program


class Points113To115(unittest.TestCase):
    def test_following_as_the_point_reads(self):
        many = 0
        for dice, program in some_flat(200, 115):
            for _ in range(4):
                use = small_use(program, dice, 3)
                told = following(program, use[0], use[1])
                self.assertEqual(told, plain_rows.following(program, use[0], use[1]))
                many += len(told)
        self.assertGreater(many, 300)

    def test_examples(self):
        self.assertEqual(following(FGH, "F", number(3)), (("G", number(4)),))
        self.assertEqual(following(FGH, "F", ZERO), ())
        self.assertEqual(following(GROW, "Grow", ("#", 7)), (("Grow", ("ptr", ("#", 7))),))
        self.assertEqual(following(GROW, "Grow", ("ptr", INT)), (("Grow", ("ptr", ("ptr", INT))),))
        # As listed, also equal ones; the other arguments make no difference.
        generics = (("F", (0, 0), 0), ("G", (0,), 0))
        program = (NUMBERS, generics, (("F", (nxt(0), 1), ("F", 0, ("F", 0, nxt(("G", nxt(0)))))), ("F", (0, 1), ("G", 0))))
        self.assertEqual(following(program, "F", number(2)), (("G", number(2)), ("F", number(1)), ("F", number(1))))
        self.assertEqual(following(program, "F", ZERO), (("G", ZERO),))
        self.assertEqual(following(program, "G", ZERO), ())
        # The one with the constructor goes before the lone one, wherever it stands.
        other = (*program[:2], program[2][::-1])
        self.assertEqual(following(other, "F", number(2)), following(program, "F", number(2)))

    def test_values_of_60_and_61_places(self):
        told = following(FGH, "F", number(59))
        self.assertEqual(told, (("G", number(60)),))
        bad(self, "first", following, FGH, "F", number(60))


class Points116And117(unittest.TestCase):
    def test_as_the_points_read(self):
        many = [0, 0]
        for _, program in some_flat(300, 116):
            told = facts(program)
            self.assertEqual(told, plain_rows.ordered_facts(program))
            self.assertEqual(edges(program), plain_rows.ordered_edges(program))
            many[0] += len(told)
            many[1] += len(edges(program))
        self.assertGreater(min(many), 200)

    def test_a_fact_leads_there(self):
        """From each pair with the head a row leads to g at the part; for an edge to one with the other head."""
        found = 0
        for dice, program in some_flat(80, 117):
            for fact in facts(program):
                for value in self.some_values(program, fact[:2]):
                    found += 1
                    self.assertIn((fact[2], value[fact[3] + 1]), self.reached(program, fact[0], value))
            for edge in edges(program):
                for value in self.some_values(program, edge[:2]):
                    self.assertIn(edge[2:], [plain_rows.head_of(pair) for pair in self.reached(program, edge[0], value)])
        self.assertGreater(found, 100)

    def some_values(self, program, head):
        kind = plain_rows.first_kind(program, head[0])
        values = plain.ordered_values(program[0], kind, 1, 5)
        return [value for value in values if value[0] == head[1]][:3]

    def reached(self, program, name, value):
        """The first pairs of all rows of two or more pairs; enough of them where they have no end."""
        found = list(plain_rows.following(program, name, value))
        for pair in found:
            if len(found) < 400:
                found += [new for new in plain_rows.following(program, *pair) if new not in found]
        return found

    def test_examples(self):
        self.assertEqual(facts(FGH), (("F", "next", "F", 0), ("G", "next", "H", 0), ("H", "next", "F", 0)))
        self.assertEqual(edges(FGH), (("F", "next", "G", "next"), ("F", "next", "H", "next")))
        self.assertEqual((facts(GROW), edges(GROW)),
                         ((), (("Grow", "int", "Grow", "ptr"), ("Grow", "ptr", "Grow", "ptr"), ("Grow", "#", "Grow", "ptr"))))
        self.assertEqual((facts(P), edges(P)), ((("P", "one", "P", 0),), (("P", "two", "P", "one"), ("P", "two", "P", "two"))))
        self.assertEqual((facts((NUMBERS, FGH[1], ())), edges((NUMBERS, FGH[1], ()))), ((), ()))

    def test_strangers_and_lone_patterns(self):
        generics = (("F", (0,), 0), ("G", (0,), 0))
        program = (TYPES, generics, (("F", (0,), ("G", 0)), ("G", (("ptr", 0),), ("F", 0)), ("G", (("pair", 0, 1),), ("F", 1))))
        self.assertEqual(facts(program), (("F", "ptr", "F", 0), ("F", "pair", "F", 1), ("G", "ptr", "F", 0), ("G", "pair", "F", 1)))
        self.assertEqual(edges(program), (("F", "int", "G", "int"), ("F", "ptr", "G", "ptr"), ("F", "pair", "G", "pair"),
                                          ("F", "#", "G", "#")))
        # A use that does not have the variable is there at each head.
        program = (TYPES, generics, (("F", (0,), ("G", INT)),))
        self.assertEqual(edges(program), tuple([("F", letter, "G", "int") for letter in ("int", "ptr", "pair", "#")]))
        # A stranger in a further argument is nothing that is looked at; a closed kind has no head for strangers.
        self.assertEqual(edges((NUMBERS, (("F", (0,), 0),), (("F", (0,), ("F", nxt(0))),))),
                         (("F", "zero", "F", "next"), ("F", "next", "F", "next")))

    def test_two_parts_and_other_kinds(self):
        """At a constructor with parts of two kinds, generics of both kinds."""
        generics = (("L", (0,), 0), ("E", (1,), 0))
        program = (LISTS, generics, (("L", (("cons", 0, 1),), ("L", ("cons", ("box", ("nil",)), 1))), ("L", (("nil",),), ("nil",)),
                                     ("E", (("box", 0),), ("L", 0)), ("E", (0,), ("E", 0))))
        self.assertEqual(facts(program), (("E", "box", "L", 0),))
        self.assertEqual(edges(program), (("L", "cons", "L", "cons"), ("E", "aa", "E", "aa"), ("E", "#", "E", "#")))
        program = (LISTS, generics, (("L", (("cons", 0, 1),), ("E", 0)), ("E", (("box", 0),), ("L", 0))))
        self.assertEqual(facts(program), (("L", "cons", "E", 0), ("E", "box", "L", 0)))
        self.assertEqual(edges(program), ())

    def test_only_what_stands_in_the_first_arguments(self):
        """Point 120."""
        many = 0
        for dice, program in some_flat(150, 120):
            many += 1
            other = (*program[:2], tuple([(name, pattern, self.moved(program, body, dice)) for name, pattern, body in program[2]]))
            if not is_program(other):
                continue
            self.assertEqual(set(facts(other)), set(facts(program)))
            self.assertEqual(edges(other), edges(program))
        self.assertGreater(many, 100)

    def moved(self, program, body, dice):
        """The body with one of its uses a second time, in a constructor, if there is one with one part of the kind."""
        if isinstance(body, int):
            return body
        for kind, (_, constructors) in enumerate(program[0]):
            for name, parts in constructors:
                is_use = plain_programs.is_use_of(program, body)
                if parts == (kind,) and is_use and plain_programs.result_of(program, body[0]) == kind:
                    return (name, body)
        return body


class Points118To125(unittest.TestCase):
    def test_programs_as_the_points_read(self):
        words = {"ends": 0, "endless": 0}
        others = 0
        for dice, program in some_flat(300, 122):
            right = plain_rows.told_program(program)
            told = ends_evidence(program)
            self.assertEqual(told[0], "endless" if right is None else "ends")
            words[told[0]] += 1
            if right is not None:
                self.assertEqual(told, right)
            self.assertIs(accepts_ends(program, told), True)
            self.assertIs(plain_rows.accepts_program(program, told), True)
            for value in (*much_changed(told, dice, 8), *self.variations(told, dice)):
                accepted = accepts_ends(program, value)
                self.assertIs(accepted, plain_rows.accepts_program(program, value))
                self.assertTrue(not accepted or value[0] == told[0])
                others += accepted and value != told
        self.assertGreater(min(words.values()), 60)
        self.assertGreater(others, 100)

    def variations(self, told, dice):
        if told[0] == "ends":
            _, some, fall = told
            return [("ends", some[::-1], fall[::-1]), ("ends", some[1:], fall),
                    ("ends", some, tuple([(head, 3 * at - 9) for head, at in fall])),
                    ("ends", some + some[:1], fall), ("ends", some, fall[1:]), ("ends", some, fall + fall[:1]),
                    ("ends", some, tuple([(head, 0) for head, _ in fall]))]
        _, lines, *rest = told
        return [("endless", lines * 2, *rest), ("endless", lines[1:], *rest), ("endless", lines, *rest[:-1], rest[-1] * 2),
                ("endless", lines, *rest[:-1], rest[-1][1:] + rest[-1][:1]), ("endless", lines, *rest[:-1], rest[-1][1:]),
                ("endless", lines, *rest[:-1], ())]

    def test_uses_as_the_points_read(self):
        words = {"ends": 0, "endless": 0}
        others = 0
        for dice, program in some_flat(200, 123):
            for _ in range(3):
                use = fitting_use(program, dice, 3)
                if not plain_programs.is_use(program, use):
                    continue
                right = plain_rows.told_use(program, use)
                told = rows_evidence(program, use)
                self.assertEqual(told[0], "endless" if right is None else "ends")
                words[told[0]] += 1
                if right is not None:
                    self.assertEqual(told, right)
                self.assertIs(accepts_rows(program, use, told), True)
                self.assertIs(plain_rows.accepts_use(program, use, told), True)
                for value in (*much_changed(told, dice, 6), *self.variations(told, dice), ends_evidence(program)):
                    accepted = accepts_rows(program, use, value)
                    self.assertIs(accepted, plain_rows.accepts_use(program, use, value))
                    self.assertTrue(not accepted or value[0] == told[0])
                    others += accepted and value != told
        self.assertGreater(min(words.values()), 100)
        self.assertGreater(others, 100)

    def test_endless_means_that_rows_do_not_end(self):
        """Points 118 and 119: the rows of pairs are followed, and the use is done."""
        seen = {}
        for dice, program in some_flat(200, 118):
            for _ in range(3):
                use = small_use(program, dice)
                word = rows_evidence(program, use)[0]
                ended = plain_rows.rows_end(program, use[0], use[1], 300)
                seen[(word, ended)] = seen.get((word, ended), 0) + 1
                self.assertIn((word, ended), (("ends", True), ("ends", None), ("endless", False), ("endless", None)))
                told = told_or_word(comes_to, program, use)
                if word == "endless":
                    self.assertNotEqual(told[0], "value")
                else:
                    self.assertNotEqual(told[0], "round")
        self.assertGreater(min(seen[("ends", True)], seen[("endless", False)], seen[("endless", None)]), 10)

    def test_each_use_whose_head_is_on_a_ring_has_an_endless_row(self):
        many = 0
        for dice, program in some_flat(150, 119):
            told = ends_evidence(program)
            if told[0] == "endless":
                heads = [told[1][at][0][:2] for at in told[2]]
                for _ in range(3):
                    use = small_use(program, dice)
                    if (use[0], use[1][0]) in heads:
                        many += 1
                        self.assertEqual(rows_evidence(program, use)[0], "endless")
        self.assertGreater(many, 20)

    def test_always_value(self):
        """Point 119."""
        found = {True: 0, False: 0}
        for dice, program in some_flat(250, 1190):
            told = always_value(program)
            self.assertIs(told, plain_rows.always_value(program))
            found[told] += 1
            complete = all(is_complete(program[0], kinds, plain_programs.patterns_of(program, name))
                           for name, kinds, _ in program[1])
            self.assertIs(told, complete and ends_evidence(program)[0] == "ends")
            if told:
                result = told_or_word(comes_to, program, small_use(program, dice))
                self.assertIn(result[0] if isinstance(result, tuple) else result, ("value", "rows"))
        self.assertGreater(min(found.values()), 30)
        self.assertIs(always_value(FGH), False)
        full = (*FGH[:2], (*FGH[2], *[(name, (ZERO,), ZERO) for name in "FGH"]))
        self.assertIs(always_value(full), True)
        self.assertIs(always_value(GROW), False)
        opened = (TYPES, (("F", (0,), 0),), tuple([("F", (pattern,), INT) for pattern in (INT, ("ptr", 0), ("pair", 0, 1))]))
        self.assertIs(always_value(opened), False)
        self.assertIs(always_value((*opened[:2], (*opened[2], ("F", (0,), INT)))), True)

    def test_told_falls(self):
        """The greatest number of edges in a row that begins with the head; for a use the heads that are needed."""
        self.assertEqual(ends_evidence(FGH)[2], ((("F", "zero"), 0), (("F", "next"), 1), (("G", "zero"), 0), (("G", "next"), 0),
                                                 (("H", "zero"), 0), (("H", "next"), 0)))
        self.assertEqual(rows_evidence(FGH, ("H", number(1)))[2], ((("F", "zero"), 0), (("H", "next"), 0)))
        self.assertEqual(rows_evidence(FGH, ("H", number(2)))[2], (
            (("F", "zero"), 0), (("F", "next"), 1), (("G", "next"), 0), (("H", "next"), 0)))
        self.assertEqual(rows_evidence(FGH, ("G", ZERO))[2], ((("G", "zero"), 0),))
        self.assertEqual(rows_evidence(P, ("P", one(("end",))))[2], ((("P", "one"), 0), (("P", "end"), 0)))
        # A shorter row to the same head does not count.
        generics = tuple([(name, (0,), 0) for name in "ABC"])
        program = (NUMBERS, generics, (("A", (0,), ("C", nxt(("B", 0)))), ("A", (nxt(0),), ("B", nxt(0))),
                                       ("B", (0,), ("C", 0)))[:1])
        self.assertIsNotNone(first_unflat(program))
        program = (NUMBERS, generics, (("A", (0,), nxt(("C", 0))), ("B", (0,), ("C", 0)), ("A", (nxt(0),), ("B", nxt(0)))))
        self.assertEqual(dict(ends_evidence(program)[2]), {("A", "zero"): 1, ("A", "next"): 2, ("B", "zero"): 1, ("B", "next"): 1,
                                                           ("C", "zero"): 0, ("C", "next"): 0})
        self.assertEqual(rows_evidence(program, ("A", number(1)))[2], ((("A", "next"), 2), (("B", "next"), 1), (("C", "next"), 0)))

    def test_falls_of_somebody_else(self):
        some, fall = ends_evidence(FGH)[1:]
        for value, right in ((fall, True), (fall[::-1], True), (tuple([(head, at - 5) for head, at in fall]), True),
                             (tuple([(head, at * 10 ** 40) for head, at in fall]), True), (fall[1:], False), (fall[:-1], False),
                             (tuple([(head, 0) for head, _ in fall]), False), ((*fall, fall[0]), False),
                             ((*fall, (("F", "one"), 0)), False),
                             ((*fall, (("F", "#"), 0)), False), (list(fall), False), ((*fall[1:], [("F", "zero"), 0]), False),
                             ((*fall[1:], (("F", "zero"), None)), False), ((*fall[1:], (("F", "zero"), True)), False),
                             ((*fall[1:], (["F", "zero"], 0)), False), ((*fall[1:], (("F", "zero"),)), False), (None, False),
                             ((), False),
                             ((*fall[1:], (("F", "zero", 0), 0)), False), ((*fall[1:], ("F", "zero", 0)), False),
                             ((*fall[1:], (("F", True), 0)), False), ((*fall[1:], ((None, "zero"), 0)), False)):
            self.assertIs(accepts_ends(FGH, ("ends", some, value)), right)
        # The fall of a use needs the heads below it alone, and those to which edges lead.
        for use, rows, right in ((("H", number(1)), ((("F", "zero"), 0), (("H", "next"), 0)), True), (("H", number(1)), fall, True),
                                 (("H", number(2)), fall[:2] + fall[3:4], False), (("H", number(2)), fall[:2] + fall[3:], True),
                                 (("F", number(1)), ((("F", "zero"), 0), (("F", "next"), 1)), False), (("G", ZERO), (), False),
                                 (("G", ZERO), ((("G", "zero"), -3),), True),
                                 (("G", ZERO), ((("G", "zero"), 0), (("F", "next"), 1)), False)):
            self.assertIs(accepts_rows(FGH, use, ("ends", some, rows)), right)

    def test_sets_with_more_facts_than_hold(self):
        some, fall = ends_evidence(FGH)[1:]
        more = ("G", "next", "F", 0)
        self.assertIs(accepts_ends(FGH, ("ends", (*some, more), fall)), False)
        closed = (*some, more, ("F", "next", "H", 0))
        told = plain_rows.accepts_program(FGH, ("ends", closed, fall))
        self.assertIs(accepts_ends(FGH, ("ends", closed, fall)), told)
        # With other facts there are more edges, and they make a ring or not; the set must be closed.
        every = [(*head, name, i) for head in plain_rows.heads(FGH) for name in "FGH"
                 for i in range(len(plain_rows.parts_of(FGH, head)))]
        levels = {("F", "next"): 3, ("G", "next"): 2, ("H", "next"): 1}
        greater = tuple([(head, levels.get(head, 0)) for head, _ in fall])
        found = {True: 0, False: 0}
        for many in range(len(every) + 1):
            for rest in itertools.combinations([fact for fact in every if fact not in some], many):
                value = ("ends", (*rest, *some), greater)
                right = plain_rows.accepts_program(FGH, value)
                found[right] += 1
                self.assertIs(accepts_ends(FGH, value), right)
                self.assertIs(accepts_rows(FGH, ("F", number(3)), value), plain_rows.accepts_use(FGH, ("F", number(3)), value))
                if many < 2:
                    self.assertIs(accepts_ends(FGH, ("ends", (*rest, *some[1:]), fall)), False)
        self.assertGreater(min(found.values()), 3)

    def test_wrong_facts(self):
        some, fall = ends_evidence(FGH)[1:]
        for value in (some[1:], (*some, some[0]), list(some), (*some[1:], list(some[0])), (*some[1:], ("F", "next", "F", False)),
                      (*some, ("F", "next", "F", 1)), (*some, ("F", "zero", "F", 0)), (*some, ("F", "#", "F", 0)),
                      (*some, ("F", "next", "K", 0)),
                      (*some, ("F", "next", None, 0)), (*some, ("F", "next", ["F"], 0)), (*some, (["F"], "next", "F", 0)),
                      (*some, ("F", ["next"], "F", 0)),
                      (*some, ("F", "next", "F", -1)), (*some, ("F", "next", "F")), (*some, ("F", "next", "F", 0, 0)),
                      (*some, (("F", "next"), "F", 0)), (*some, ("F", "next", "F", "next")), (*some, None), None, ()):
            self.assertIs(accepts_ends(FGH, ("ends", value, fall)), False)
            self.assertIs(accepts_rows(FGH, ("F", number(2)), ("ends", value, fall)), False)
        # The kind of the part must be that of the generic.
        program = (NUMBERS, (("F", (1,), 0), ("G", (0,), 0)), ())
        fall = ends_evidence(program)[2]
        self.assertIs(accepts_ends(program, ("ends", (("F", "box", "G", 0),), fall)), True)
        self.assertIs(accepts_ends(program, ("ends", (("F", "box", "F", 0),), fall)), False)

    def test_lines(self):
        fact, ring = (("P", "one", "P", 0), (), ()), (("P", "two", "P", "two"), (), (0, 0))
        step, back = (("P", "two", "P", "one"), (), (0,)), (("P", "two", "P", "one"), (), ())
        self.assertIs(accepts_ends(P, ("endless", (fact, ring), (1,))), True)
        for lines, numbers, right in (((fact, ring), (1, 1), True), ((fact, step, ring), (2,), True),
                                      ((fact, back, ring), (2,), True),
                                      ((fact, ring), (0,), False), ((fact, ring), (), False), ((fact, ring), (2,), False),
                                      ((fact, ring), (True,), False),
                                      ((fact, ring), [1], False), ((fact, step), (1,), False), ((ring, fact), (0,), False),
                                      ((ring,), (0,), False),
                                      ((fact, (ring[0], (), (0,))), (1,), False), ((fact, (ring[0], (), (0, 0, 0))), (1,), False),
                                      ((fact, (ring[0], (0,), (0, 0))), (1,), False),
                                      ((fact, (ring[0], (), (False, 0))), (1,), False),
                                      ((fact, (ring[0], (), [0, 0])), (1,), False), ((fact, (ring[0], [], (0, 0))), (1,), False),
                                      ((fact, list(ring)), (1,), False), ([fact, ring], (1,), False),
                                      ((fact, ring[:2]), (1,), False),
                                      ((fact, (ring[0], (), (1, 0))), (1,), False), ((fact, (ring[0], (), (-1, 0))), (1,), False),
                                      ((fact, (("P", "two", "P", "end"), (), (0, 0))), (1,), False),
                                      ((fact, (("P", "two", "P", "#"), (), (0, 0))), (1,), False),
                                      ((fact, (list(ring[0]), (), (0, 0))), (1,), False), ((fact, ring, None), (1,), False),
                                      (((("P", "one", "P", False), (), ()), ring), (1,), False),
                                      ((fact, step, (ring[0], (), (1, 0))), (2,), False),
                                      (((("P", "two", "P", 0), (), ()), fact, (ring[0], (), (1, 1))), (2,), False),
                                      ((fact, ring, (("P", "two", "P", 0), (), (0, 0))), (1,), False)):
            self.assertIs(accepts_ends(P, ("endless", lines, numbers)), right)
            self.assertIs(plain_rows.accepts_program(P, ("endless", lines, numbers)), right)

    def test_ways_of_uses(self):
        fact, ring = (("P", "one", "P", 0), (), ()), (("P", "two", "P", "two"), (), (0, 0))
        away = (("P", "two", "P", "one"), (), ())
        for use, lines, numbers, way, right in (
                (("P", two(("end",))), (fact, ring), (), (1,), True), (("P", one(two(("end",)))), (fact, ring), (0,), (1,), True),
                (("P", one(one(two(("end",))))), (fact, ring), (0, 0), (1,), True),
                (("P", one(two(("end",)))), (fact, ring), (), (1,), False),
                (("P", one(one(two(("end",))))), (fact, ring), (0,), (1,), False),
                (("P", two(("end",))), (fact, ring), (0,), (1,), False),
                (("P", two(("end",))), (fact, ring), (), (1, 1), True), (("P", two(("end",))), (fact, ring), (), (), False),
                (("P", two(("end",))), (fact, ring, away), (), (1, 2), False),
                (("P", two(("end",))), (fact, ring, away), (), (2,), False),
                (("P", two(("end",))), (fact, ring, away), (), (2, 1), False),
                (("P", two(("end",))), (fact, ring), (1,), (1,), False),
                (("P", two(("end",))), (fact, ring), (), (0,), False), (("P", two(("end",))), (fact, ring), [], (1,), False),
                (("P", two(("end",))), (fact, ring), (), [1], False), (("P", ("end",)), (fact, ring), (), (1,), False)):
            self.assertIs(accepts_rows(P, use, ("endless", lines, numbers, way)), right)
        # A way to a ring that it does not begin on.
        lines = ((("Grow", "#", "Grow", "ptr"), (), ()), (("Grow", "ptr", "Grow", "ptr"), (), ()))
        self.assertIs(accepts_rows(GROW, ("Grow", ("#", 5)), ("endless", lines, (), (0, 1))), True)
        self.assertIs(accepts_rows(GROW, ("Grow", ("#", 5)), ("endless", lines, (), (0,))), False)
        self.assertIs(accepts_rows(GROW, ("Grow", ("#", 5)), ("endless", lines, (), (1,))), False)
        self.assertIs(accepts_rows(GROW, ("Grow", INT), ("endless", lines, (), (0, 1))), False)
        self.assertIs(accepts_ends(GROW, ("endless", lines, (0, 1))), False)
        self.assertIs(accepts_ends(GROW, ("endless", lines, (1,))), True)

    def test_paths_of_lines(self):
        """Of several uses in a body the one for which the path stands."""
        generics = (("F", (0, 0), 0), ("G", (0,), 0))
        program = (NUMBERS, generics, (("F", (nxt(0), 1), ("F", 0, nxt(("G", nxt(0))))), ("G", (nxt(0),), ("G", nxt(0)))))
        for path, claim, right in (((), ("F", "next", "F", 0), True), ((1, 0), ("F", "next", "F", 0), False),
                                   ((1, 0), ("F", "next", "G", "next"), True),
                                   ((), ("F", "next", "G", "next"), False), ((1,), ("F", "next", "F", 0), False),
                                   ((1, False), ("F", "next", "G", "next"), False),
                                   ((True, 0), ("F", "next", "G", "next"), False), ((0,), ("F", "next", "F", 0), False)):
            lines = ((claim, path, ()), (("G", "next", "G", "next"), (), ()))
            self.assertIs(accepts_ends(program, ("endless", lines, (1,))), right)

    def test_whatever_is_judged(self):
        some, fall = ends_evidence(FGH)[1:]
        use = ("F", number(2))
        for value in (*NOTHINGS, *deep_things()):
            for evidence in (value, (value,), ("ends", value, fall), ("ends", (*some, value), fall), ("ends", some, value),
                             ("ends", some, (*fall, value)),
                             ("ends", value, value), ("ends", some, ((value, 0),)), ("ends", some, ((("F", value), 0),)),
                             ("endless", value, (0,)),
                             ("endless", (value,), (0,)), ("endless", (), value), ("endless", value, value),
                             ("endless", value, value, value),
                             ("endless", (), (), value), ("endless", (), value, (0,)), (value, some, fall),
                             ("ends", some, ((value, value),)),
                             ("endless", ((("F", "next", "G", "next"), value, ()),), (0,)),
                             ("endless", ((("F", "next", "F", 0), (), value),), (0,)),
                             ("endless", ((value, (), ()),), (0,)), ("endless", (((value, "next", "G", "next"), (), ()),), (0,))):
                if evidence not in (("ends", (*some, ()), fall),):
                    self.assertIs(accepts_ends(FGH, evidence), False)
                    self.assertIs(accepts_rows(FGH, use, evidence), False)

    def test_wrong_arguments(self):
        """Point 125."""
        calls = (facts, edges, ends_evidence, always_value, lambda p: accepts_ends(p, None), lambda p: following(p, None, None),
                 lambda p: rows_evidence(p, None), lambda p: accepts_rows(p, None, None))
        for function in calls:
            for program in (*NOTHINGS, *deep_things(), list(FGH), (NUMBERS, (), ())):
                bad(self, "program", function, program)
        for name in (*NOTHINGS, *deep_things(), "K", "f", "Ff", ("F",), True):
            bad(self, "name", following, FGH, name, None)
        for first in (*NOTHINGS, *deep_things(), 0, nxt(0), ("#", 0), ["zero"], ("box", ZERO), number(60), ("F", ZERO)):
            bad(self, "first", following, FGH, "F", first)
        for use in (*NOTHINGS, *deep_things(), ("F",), ("F", ZERO, ZERO), ("F", number(60)), ["F", ZERO], ("K", ZERO)):
            bad(self, "use", rows_evidence, FGH, use)
            bad(self, "use", accepts_rows, FGH, use, None)

    def test_programs_that_are_not_flat(self):
        """Behind the arguments, and whatever is judged."""
        for function in (facts, edges, ends_evidence, always_value, lambda p: accepts_ends(p, None),
                         lambda p: following(p, "Half", ZERO),
                         lambda p: rows_evidence(p, ("Half", ZERO)), lambda p: accepts_rows(p, ("Half", ZERO), None)):
            not_possible(self, "flat", function, EXAMPLE)
        bad(self, "name", following, EXAMPLE, "K", ZERO)
        bad(self, "first", following, EXAMPLE, "Half", 0)
        bad(self, "use", rows_evidence, EXAMPLE, ("Half", 0))
        bad(self, "use", accepts_rows, EXAMPLE, ("Half", 0), None)
        generics = (("F", (0, 0), 0),)
        for rows in ((("F", (0, 0), 0),), (("F", (0, 1), ("F", 1, 0)),),
                     (("F", (0, 1), 0), ("F", (nxt(0), 1), ("F", ("F", 0, 0), 0)))):
            not_possible(self, "flat", facts, (NUMBERS, generics, rows))
        self.assertEqual(facts((NUMBERS, generics, (("F", (0, 1), ("F", 0, ("F", ZERO, 1))),))), ())

    def test_nothing_is_too_large(self):
        """128 facts, and values of 60 places."""
        signature = (("open", tuple([(name, (0, 0)) for name in ("pa", "pb", "pc", "pd")])),)
        generics = tuple([(name, (0, 0), 0) for name in "ABCD"])

        def four(at, last):
            return ("A", at, ("B", at, ("C", at, ("D", at, last))))
        rows = [(name, ((letter, 0, 1), 2), ("A", ("pa", 0, 1), 2)) for name in "ABCD" for letter in ("pa", "pb", "pc", "pd")]
        rows[0] = (*rows[0][:2], ("A", 0, ("B", 0, ("C", 0, ("A", ("pb", 0, 1), 2)))))
        rows[1] = (*rows[1][:2], ("A", 1, ("B", 1, ("C", 1, ("B", ("pa", 0, 1), 2)))))
        rows[4] = (*rows[4][:2], ("D", 0, ("D", 1, ("A", ("pa", 0, 1), 2))))
        program = (signature, generics, tuple(rows))
        self.assertEqual(len(facts(program)), 128)
        told = ends_evidence(program)
        self.assertEqual(told[0], "endless")
        self.assertIs(accepts_ends(program, told), True)
        use = ("D", ("pc", ("#", 0), ("#", 0)), ("#", 0))
        self.assertIs(accepts_rows(program, use, rows_evidence(program, use)), True)
        without = (signature, generics, (*[(*row[:2], four(0, 1)) for row in rows[::2]],
                                         *[(*row[:2], four(1, 0)) for row in rows[1::2]]))
        self.assertEqual((len(facts(without)), edges(without)), (64, ()))
        self.assertEqual(ends_evidence(without)[0], "ends")
        long = chain("next", 59, ZERO)
        self.assertEqual(rows_evidence(FGH, ("F", long))[0], "ends")
        # A value of 60 places that goes down 58 times.
        use = ("P", chain("one", 58, two(("end",))))
        told = rows_evidence(P, use)
        self.assertEqual((told[0], len(told[2])), ("endless", 58))
        self.assertIs(accepts_rows(P, use, told), True)
        bad(self, "use", rows_evidence, P, ("P", one(use[1])))
        self.assertEqual(comes_to(P, ("P", two(("end",))))[0], "round")


class Point126(unittest.TestCase):
    def test_example(self):
        self.assertEqual(ends_evidence(FGH)[0], "ends")
        told = ends_evidence(GROW)
        self.assertEqual((told[0], told[1][told[2][0]][0]), ("endless", ("Grow", "ptr", "Grow", "ptr")))
        told = ends_evidence(P)
        self.assertEqual(told, ("endless", ((("P", "one", "P", 0), (), ()), (("P", "two", "P", "two"), (), (0, 0))), (1,)))
        self.assertEqual(plain_cases.size((number(3),)), 4)


if __name__ == "__main__":
    unittest.main()
