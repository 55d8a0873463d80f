"""Points 170 to 173: texts of programs and of uses, which are read again."""

import random
import unittest

from closestfit.programs import is_program, is_use
from closestfit.reading import read_program, read_use
from closestfit.scanning import scan
from closestfit.writing import program_text, use_text
from tests import plain_texts
from tests.programs import EXAMPLE, SPECIAL, lively_program, some_programs, some_use
from tests.samples import MIXED, NOTHINGS, NUMBERS, TYPES, bad, chain, deep_things
from tests.test_reading import ADD, SIZE, spaced


def some_more_programs(many, seed):
    for at, (dice, program) in enumerate(some_programs(many, seed)):
        yield dice, program if at % 2 else lively_program(dice)


class Point170(unittest.TestCase):
    def test_the_examples(self):
        """Point 173."""
        self.assertEqual(program_text(read_program(ADD)), ADD)
        self.assertEqual(program_text(read_program(SIZE)), SIZE)
        self.assertEqual(use_text(read_program(SIZE), ("Size", ("ptr", ("#", 4)))), "Size(ptr(#4))")

    def test_programs(self):
        generics = (("F", (0, 2, 1), 2), ("Ggggggg", (1,), 0))
        self.assertEqual(program_text((MIXED, generics, ())),
                         "leaf(1) | fork(0, 0); flag(2) | tree(0) | ..; yes | no; F(0, 2, 1): 2; Ggggggg(1): 0")
        self.assertEqual(program_text(((("open", ()),), (("F", (0,), 0),), (("F", (0,), ("F", 0)),))), "..; F(0): 0; F(a) = F(a)")
        self.assertEqual(program_text(SPECIAL), "zero | next(0); box(0) | ..; Pred(0): 0; Twice(0): 0; "
                                                "Pred(next(a)) = a; Twice(a) = Pred(a); Twice(zero) = zero")

    def test_letters(self):
        """Variable 0 is a, and so on, up to the twelfth one."""
        signature = (("closed", (("ab", ()), ("cd", (0, 0)))),)
        program = (signature, (("F", (0, 0, 0), 0),), (("F", (("cd", 0, 1), ("cd", 2, 3), ("cd", 4, ("cd", 5, 6))),
                                                        ("cd", 6, ("cd", 0, 4))),))
        text = "ab | cd(0, 0); F(0, 0, 0): 0; F(cd(a, b), cd(c, d), cd(e, cd(f, g))) = cd(g, cd(a, e))"
        self.assertEqual(program_text(program), text)
        self.assertEqual(program_text((TYPES, (("F", (0, 0), 0),), (("F", (0, 0), 0),))).split("; ")[-1], "F(a, a) = a")

    def test_uses(self):
        program = (NUMBERS, (("F", (1, 0), 0), ("G", (1,), 0)), ())
        zero = ("zero",)
        for use, text in ((("F", ("#", 0), zero), "F(#0, zero)"), (("G", ("#", 999999)), "G(#999999)"),
                          (("F", ("box", ("next", zero)), ("next", ("next", zero))), "F(box(next(zero)), next(next(zero)))")):
            self.assertEqual(use_text(program, use), text)
        pair = ("pair", ("#", 3), ("pair", ("int",), ("#", 3)))
        self.assertEqual(use_text((TYPES, (("F", (0,), 0),), ()), ("F", pair)), "F(pair(#3, pair(int, #3)))")

    def test_as_the_point_reads(self):
        for dice, program in some_more_programs(250, 170):
            self.assertEqual(program_text(program), plain_texts.program_text(program))
            use = some_use(program, dice)
            self.assertEqual(use_text(program, use), plain_texts.text_of(use))


class Point171(unittest.TestCase):
    def test_what_was_written_is_read_again(self):
        for dice, program in some_more_programs(250, 171):
            text = program_text(program)
            self.assertEqual(read_program(text), program)
            tokens = [token[1] for token in scan(text)[:-1]]
            self.assertEqual(read_program(spaced(tokens, dice)), program)
            self.assertEqual(read_program("".join(f"   {token} " for token in tokens)), program)
            use = some_use(program, dice)
            text = use_text(program, use)
            self.assertEqual(read_use(program, text), use)
            self.assertEqual(read_use(program, spaced([token[1] for token in scan(text)[:-1]], dice)), use)

    def test_with_zeros_ahead(self):
        for dice, program in some_more_programs(80, 1710):
            tokens = [token[1].zfill(dice.randint(1, 6)) if token[0] == "number" else token[1]
                      for token in scan(program_text(program))[:-1]]
            self.assertEqual(read_program(spaced(tokens, dice)), program)
            use = some_use(program, dice)
            tokens = [token[1].zfill(6) if token[0] == "number" else token[1] for token in scan(use_text(program, use))[:-1]]
            self.assertEqual(read_use(program, " ".join(tokens)), use)
        self.assertEqual(program_text(read_program("ab | cd(000); F(00, 0): 000000")), "ab | cd(0); F(0, 0): 0")
        self.assertEqual(use_text(read_program(SIZE), read_use(read_program(SIZE), "Size(#000040)")), "Size(#40)")

    def test_with_other_letters_in_one_definition(self):
        dice = random.Random(1711)
        changed = 0
        for _, program in some_more_programs(80, 1711):
            parts = program_text(program).split("; ")
            first = len(program[0]) + len(program[1])
            for at in range(first, len(parts)):
                letters = dict(zip("abcdefghijkl", dice.sample("abcdefghijklmnopqrstuvwxyz", 12)))
                tokens = [letters[token[1]] if token[0] == "variable" else token[1] for token in scan(parts[at])[:-1]]
                other = [*parts[:at], " ".join(tokens), *parts[at + 1:]]
                self.assertEqual(read_program("; ".join(other)), program)
                changed += " ".join(tokens) != " ".join(token[1] for token in scan(parts[at])[:-1])
        self.assertGreater(changed, 100)

    def test_everything_that_is_read_is_a_program_or_a_use(self):
        for text in (ADD, SIZE, "..; F(0): 0; F(z) = F(z)"):
            self.assertIs(is_program(read_program(text)), True)
        self.assertIs(is_use(read_program(SIZE), read_use(read_program(SIZE), "Size(ptr(ptr(int)))")), True)

    def test_the_longest_texts(self):
        """Names of eight letters wherever there can be some; each text has at most 8000 characters."""
        names = [f"abcdefg{letter}" for letter in "abcdefghijkl"]
        signature = tuple(("open", tuple((name, (0, 0)) for name in names[at:at + 4])) for at in (0, 4, 8))
        generics = tuple((f"Abcdefg{letter}", (0, 0, 0), 0) for letter in "abcd")
        # The first five places of each pattern are constructors, in as many ways as are needed.
        definitions = []
        for at in range(16):
            head = (names[at // 4], (names[at % 4], 0, 1), (names[0], 2, 3))
            pattern = (head, (names[1], 4, 5), 6)
            body = (generics[0][0], (generics[1][0], 0, 1, 2), (generics[2][0], 3, 4, 5), (names[0], 6, 0))
            definitions.append((generics[at % 4][0], pattern, body))
        program = (signature, generics, tuple(definitions))
        self.assertIs(is_program(program), True)
        text = program_text(program)
        self.assertLessEqual(len(text), 8000)
        self.assertGreater(len(text), 2000)
        self.assertEqual(read_program(text), program)
        use = (generics[0][0], *[chain_pairs(names[0], 60 - at) for at in range(3)])
        self.assertLessEqual(len(use_text(program, use)), 8000)
        self.assertEqual(read_use(program, use_text(program, use)), use)


def chain_pairs(name, most):
    """A value of at most so many places, as deep as it can be."""
    value = ("#", 999999)
    for _ in range((most - 1) // 2):
        value = (name, ("#", 100000), value)
    return value


class Point172(unittest.TestCase):
    def test_the_first_wrong_argument_is_named(self):
        for wrong in (*NOTHINGS, *deep_things(), list(EXAMPLE), (NUMBERS, (), ()), EXAMPLE[:2]):
            bad(self, "program", program_text, wrong)
            bad(self, "program", use_text, wrong, None)
        program = (TYPES, (("F", (0,), 0),), ())
        for wrong in (*NOTHINGS, *deep_things(), ("F",), ("F", 0), ("G", ("int",)), ["F", ("int",)], ("F", ("#", True)),
                      ("F", ("#", -1)),
                      ("F", chain("ptr", 60, ("int",))), ("F", ("int",), ("int",)), "F(int)"):
            bad(self, "use", use_text, program, wrong)

    def test_strangers_of_six_and_seven_digits(self):
        program = (TYPES, (("F", (0,), 0),), ())
        self.assertEqual(use_text(program, ("F", ("ptr", ("#", 999999)))), "F(ptr(#999999))")
        for number in (1000000, 10 ** 50):
            bad(self, "use", use_text, program, ("F", ("#", number)))
            bad(self, "use", use_text, program, ("F", ("pair", ("#", 999999), ("ptr", ("#", number)))))
        self.assertEqual(use_text(program, ("F", chain("ptr", 59, ("int",)))), "F(" + "ptr(" * 59 + "int" + ")" * 60)


if __name__ == "__main__":
    unittest.main()
