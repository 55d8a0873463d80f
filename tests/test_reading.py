"""Points 164 to 169, 172 and 173: what can come, and programs and uses that are read from texts."""

import random
import unittest

from closestfit.errors import TextError
from closestfit.programs import is_program, is_use
from closestfit.reading import next_tokens, read_program, read_use
from closestfit.scanning import scan
from closestfit.writing import program_text, use_text
from tests import plain_texts
from tests.programs import some_programs, some_use
from tests.samples import NOTHINGS, NUMBERS, TYPES, bad, chain, deep_things, text_error

ADD = "zero | next(0); Add(0, 0): 0; Add(zero, a) = a; Add(next(a), b) = next(Add(a, b))"
SIZE = "int | ptr(0) | ..; Size(0): 0"
SIGNS = {sign: f'"{sign}"' for sign in ("(", ")", ",", ";", ":", "=", "|", "..", "#")}
WORDS = {"v": "a variable", "c": "a constructor", "g": "a generic", "n": "a number", "e": "the end", **SIGNS}


def words(short):
    """The words for which these letters and signs stand, which have blanks between them."""
    return [WORDS[part] for part in short.split()]


def told(function, *arguments):
    """What is told, or column and words of the problem."""
    try:
        return function(*arguments)
    except TextError as error:
        return (error.column, error.words)
    except plain_texts.Problem as problem:
        return problem.args


# Beginnings of the text of a program, and what can come behind them: each place of the grammar.
PROGRAM_PLACES = (
    ("", "c .."), ("..", ";"), ("ab", "( ; |"), ("ab(", "n"), ("ab(0", ") ,"), ("ab(0,", "n"), ("ab(0,1", ") ,"),
                  ("ab(0)", "; |"),
    ("ab |", "c .."), ("ab | cd", "( ; |"), ("ab | ..", ";"), ("ab | cd(0) | ..", ";"), ("ab;", "c g .."), ("..; ..", ";"),
                  ("ab; F", "("),
    ("ab; F(", "n"), ("ab; F(0", ") ,"), ("ab; F(0,", "n"), ("ab; F(0)", ":"), ("ab; F(0):", "n"), ("ab; F(0): 0", "; e"),
    ("ab; F(0): 0;", "g"), ("ab; F(0): 0; G", "("), ("ab; F(0): 0; G(", "v c n"), ("ab; F(0): 0; G(0", ") ,"),
                  ("ab; F(0): 0; G(0): 0", "; e"),
    ("ab; F(0): 0; F(a", ") ,"), ("ab; F(0): 0; F(a,", "v c"), ("ab; F(0): 0; F(cd", "( ) ,"), ("ab; F(0): 0; F(cd(", "v c"),
    ("ab; F(0): 0; F(cd(a", ") ,"), ("ab; F(0): 0; F(cd(a,", "v c"), ("ab; F(0): 0; F(cd(ef", "( ) ,"),
                  ("ab; F(0): 0; F(cd(a)", ") ,"),
    ("ab; F(0): 0; F(a)", "="), ("ab; F(0): 0; F(a) =", "v c g"), ("ab; F(0): 0; F(a) = a", "; e"),
                  ("ab; F(0): 0; F(a) = ab", "( ; e"),
    ("ab; F(0): 0; F(a) = ab(", "v c g"), ("ab; F(0): 0; F(a) = ab(a", ") ,"), ("ab; F(0): 0; F(a) = ab(a,", "v c g"),
    ("ab; F(0): 0; F(a) = ab(cd", "( ) ,"), ("ab; F(0): 0; F(a) = ab(a)", "; e"), ("ab; F(0): 0; F(a) = F", "("),
    ("ab; F(0): 0; F(a) = F(", "v c g"), ("ab; F(0): 0; F(a) = F(F", "("), ("ab; F(0): 0; F(a) = F(a", ") ,"),
                  ("ab; F(0): 0; F(a) = F(a)", "; e"),
    ("ab; F(0): 0; F(a) = F(F(a)", ") ,"), ("ab; F(0): 0; F(a) = a;", "g"), ("ab; F(0): 0; F(a) = a; F", "("),
    # Behind a definition there is no further head.
    ("ab; F(0): 0; F(a) = a; F(", "v c"), ("ab; F(0): 0; F(a) = a; F(a) = a", "; e"),
                  ("ab; F(0): 0; F(a) = a; F(a) = a; G(", "v c"),
    ("ab; F(0): 0; G(0): 0; H(", "v c n"))
USE_PLACES = (
    ("", "g"), ("F", "("), ("F(", "c #"), ("F(#", "n"), ("F(#0", ") ,"), ("F(#0,", "c #"), ("F(ab", "( ) ,"), ("F(ab(", "c #"),
              ("F(ab(#", "n"),
    ("F(ab(#1", ") ,"), ("F(ab(cd,", "c #"), ("F(ab(cd)", ") ,"), ("F(ab)", "e"), ("F(ab, cd)", "e"))
PLACES = [("program", *place) for place in PROGRAM_PLACES] + [("use", *place) for place in USE_PLACES]
# One token of each word.
SAMPLES = {"a variable": "x", "a constructor": "xy", "a generic": "Xy", "a number": "3",
           **{word: sign for sign, word in SIGNS.items()}}


def expected(found):
    return "expected " + (found[0] if len(found) == 1 else ", ".join(found[:-1]) + " or " + found[-1])


def reader(kind):
    return read_program if kind == "program" else lambda text: read_use(read_program(SIZE), text)


class Points164And165(unittest.TestCase):
    def test_each_place(self):
        for kind, text, short in PLACES:
            self.assertEqual(next_tokens(text, kind), words(short), text)
            self.assertEqual(next_tokens(" " + text + "  ", kind), words(short), text)

    def test_what_can_come_comes_and_nothing_else_does(self):
        for kind, text, short in PLACES:
            right = words(short)
            for word, token in SAMPLES.items():
                longer = text + " " + token
                if word in right:
                    self.assertIsInstance(next_tokens(longer, kind), list)
                else:
                    text_error(self, len(text) + 2, expected(right), next_tokens, longer, kind)
                    text_error(self, len(text) + 2, expected(right), reader(kind), longer)
                    text_error(self, len(text) + 2, expected(right), reader(kind), longer + " ( ) = 1234")
            if "the end" not in right:
                text_error(self, len(text) + 1, expected(right), reader(kind), text)
                text_error(self, len(text) + 4, expected(right), reader(kind), text + "   ")

    def test_words_of_the_problem(self):
        text_error(self, 1, 'expected a constructor or ".."', read_program, "")
        text_error(self, 3, 'expected "(", ";" or "|"', read_program, "ab")
        text_error(self, 3, 'expected ";"', read_program, "..")
        text_error(self, 16, "expected a variable, a constructor or a number", read_program, "ab; F(0): 0; F(")
        text_error(self, 13, 'expected ";" or the end', read_program, "ab; F(0): 0 0")
        text_error(self, 1, "expected a generic", next_tokens, "f", "use")
        text_error(self, 7, "expected the end", next_tokens, "F(ab) F", "use")

    def test_problems_of_tokens_come_first(self):
        """Also far behind a wrong token."""
        for text, column, problem in ((") ) ab; F(0): 0; F(a) = ?", 25, "no token begins here"),
                                      ("( abcdefghi", 3, "a name has at most 8 letters"),
                                      ("F F 1234567", 5, "a number has at most 6 digits"),
                                      ("ab; ab; F(7): 9 .", 17, "no token begins here")):
            for function, rest in ((read_program, ()), (next_tokens, ("program",)), (next_tokens, ("use",))):
                text_error(self, column, problem, function, text, *rest)
            text_error(self, column, problem, read_use, read_program(SIZE), text)

    def test_no_text_is_at_its_end_ahead_of_its_end(self):
        text_error(self, 6, "expected the end", next_tokens, "F(ab))", "use")
        text_error(self, 6, "expected the end", read_use, read_program(SIZE), "F(ab))")

    def test_fifteen_hundred_parentheses(self):
        inner = "ab(" * 1500
        for ahead, kind, short in (("ab; F(0): 0; F(", "program", "v c"), ("ab; F(0): 0; F(a) = ", "program", "v c g"),
                                   ("F(", "use", "c #")):
            self.assertEqual(next_tokens(ahead + inner, kind), words(short))
            self.assertEqual(next_tokens(ahead + inner + "cd" + ")" * 1500, kind), next_tokens(ahead + "cd(ab)", kind))
            text_error(self, len(ahead + inner) + 1, expected(words(short)), next_tokens, ahead + inner + ")", kind)
        self.assertEqual(next_tokens("ab; F(0): 0; F(a) = " + "F(" * 1500 + "a" + ")" * 1500, "program"), words("; e"))
        text_error(self, 16, "there is no such constructor", read_program,
                   "ab; F(0): 0; F(" + "cd(" * 1500 + "a" + ")" * 1500 + ") = a")
        text = "ab(0) | cd; F(0): 0; F(" + "ab(" * 1500 + "a" + ")" * 1501 + " = a"
        text_error(self, 24 + 12 * 3, "a pattern has at most 12 places", read_program, text)
        text = "ab(0) | cd; F(0): 0; F(a) = " + "F(" * 1500 + "a" + ")" * 1500
        text_error(self, 29 + 12 * 2, "a body has at most 12 places", read_program, text)
        text_error(self, 6 + 60 * 4, "an argument has at most 60 places", read_use, read_program(SIZE),
                   "Size(" + "ptr(" * 1500 + "int" + ")" * 1501)
        text_error(self, 6 + 1500 * 4, expected(words("c #")), read_use, read_program(SIZE), "Size(" + "ptr(" * 1500 + ")" * 1501)

    def test_as_the_points_read(self):
        """Beginnings of right and of changed texts."""
        dice = random.Random(165)
        counts = {True: 0, False: 0}
        for tokens, kind in some_token_rows(dice, 220):
            for _ in range(4):
                row = changed_tokens(tokens, dice) if dice.random() < 0.5 else tokens
                text = "".join(token + " " * dice.choice((1, 1, 1, 2)) for token in row[:dice.randint(0, len(row))])
                right = told(plain_texts.next_tokens, text, kind)
                self.assertEqual(told(next_tokens, text, kind), right)
                counts[isinstance(right, list)] += 1
        self.assertGreater(min(counts.values()), 80)

    def test_a_list_that_is_changed_changes_nothing(self):
        """Point 2."""
        found = next_tokens("ab", "program")
        self.assertIsInstance(found, list)
        found.clear()
        self.assertEqual(next_tokens("ab", "program"), words("( ; |"))


def some_token_rows(dice, many):
    """Pairs of the tokens of a text and its kind."""
    for _, program in some_programs(many, dice.randrange(1000)):
        if dice.random() < 0.7:
            yield [token[1] for token in scan(program_text(program))[:-1]], "program"
        else:
            yield [token[1] for token in scan(use_text(program, some_use(program, dice)))[:-1]], "use"


def changed_tokens(tokens, dice):
    """The tokens with one or two left out, put in or exchanged."""
    tokens = list(tokens)
    for _ in range(dice.randint(1, 2)):
        at = dice.randrange(len(tokens))
        way = dice.random()
        if way < 0.3:
            del tokens[at]
        elif way < 0.6:
            tokens.insert(at, dice.choice(tokens + ["x", "xy", "Xy", "3", *SIGNS]))
        else:
            tokens[at] = dice.choice(tokens + ["x", "xy", "Xy", "3", *SIGNS])
        if not tokens:
            return ["x"]
    return tokens


def exchanged_tokens(tokens, dice):
    """The tokens with some exchanged for others of the same kind, so that they follow the grammar as before."""
    tokens = list(tokens)
    kinds = [scan(token)[0][0] for token in tokens]
    more = {"variable": "ab", "constructor": ["xy", "zz"], "generic": ["X", "Yz"], "number": ["0", "1", "2", "3", "00"],
            "sign": []}
    for _ in range(dice.randint(1, 2)):
        at = dice.randrange(len(tokens))
        if kinds[at] != "sign":
            tokens[at] = dice.choice([token for token, kind in zip(tokens, kinds) if kind == kinds[at]] + list(more[kinds[at]]))
    return tokens


class Points166To168(unittest.TestCase):
    def test_the_examples(self):
        """Point 173."""
        add = (NUMBERS[:1], (("Add", (0, 0), 0),), (("Add", (("zero",), 0), 0),
                                                    ("Add", (("next", 0), 1), ("next", ("Add", 0, 1)))))
        self.assertEqual(read_program(ADD), add)
        size = ((("open", (("int", ()), ("ptr", (0,)))),), (("Size", (0,), 0),), ())
        self.assertEqual(read_program(SIZE), size)
        self.assertEqual(read_use(size, "Size(ptr(#4))"), ("Size", ("ptr", ("#", 4))))

    def test_kinds_and_generics(self):
        self.assertEqual(read_program("..; F(0): 0"), ((("open", ()),), (("F", (0,), 0),), ()))
        self.assertEqual(read_program("ab(1, 2) | cd; ..; ef | gh(00001) | ..; F(2, 1, 0): 1; Gg(002): 0"),
                         ((("closed", (("ab", (1, 2)), ("cd", ()))), ("open", ()), ("open", (("ef", ()), ("gh", (1,))))),
                          (("F", (2, 1, 0), 1), ("Gg", (2,), 0)), ()))

    def test_variables(self):
        """They are numbered in the order in which they first stand, whatever their letters are."""
        program = read_program("ab | cd(0, 0); F(0, 0, 0): 0; F(z, cd(a, z), m) = cd(m, cd(a, z)); F(a, b, b) = b")
        self.assertEqual(program[2], (("F", (0, ("cd", 1, 0), 2), ("cd", 2, ("cd", 1, 0))), ("F", (0, 1, 1), 1)))

    def problem(self, text, column, problem):
        text_error(self, column, problem, read_program, text)
        with self.assertRaises(plain_texts.Problem) as caught:
            plain_texts.read_program(text)
        self.assertEqual(caught.exception.args, (column, problem))

    def test_problems_of_kinds(self):
        self.assertIs(is_program(read_program("ab; cd; ef; F(0): 0")), True)
        self.problem("ab; cd; ef; gh; F(0): 0", 13, "there are at most 3 kinds")
        self.problem("ab; cd; ef; ..; gh; F(0): 0", 13, "there are at most 3 kinds")
        self.assertIs(is_program(read_program("ab | cd | ef | gh | ..; F(0): 0")), True)
        self.problem("ab | cd | ef | gh | ij; F(0): 0", 21, "a kind has at most 4 constructors")
        self.problem("ab; cd | ef | gh | ij | kl | ..; F(0): 0", 25, "a kind has at most 4 constructors")
        self.problem("ab | ab; F(0): 0", 6, "this name stands already")
        self.problem("ab; cd | ef; gh | cd; F(0): 0", 19, "this name stands already")

    def test_problems_of_numbers(self):
        self.assertIs(is_program(read_program("ab(0, 0) | cd; F(0, 0, 0): 0")), True)
        self.problem("ab(0, 0, 0) | cd; F(0): 0", 10, "a constructor has at most 2 parts")
        self.problem("ab(1) | cd; F(0): 0", 4, "there is no such kind")
        self.problem("ab(0, 2) | cd; ..; F(0): 0", 7, "there is no such kind")
        self.assertIs(is_program(read_program("ab(0, 1) | cd; ..; F(0): 0")), True)
        self.problem("ab(0, 999999) | cd; ..; F(0): 0", 7, "there is no such kind")
        self.problem("ab; F(0, 0, 0, 0): 0", 16, "a generic has at most 3 parameters")
        self.problem("ab; F(1): 0", 7, "there is no such kind")
        self.problem("ab; F(0, 0, 7): 0", 13, "there is no such kind")
        self.problem("ab; F(0): 1", 11, "there is no such kind")
        self.problem("ab; F(0): 0; G(0): 0001", 20, "there is no such kind")

    def test_kinds_without_a_value(self):
        self.problem("ab(0); F(0): 0", 6, "a closed kind has no value")
        self.problem("ab(1); cd(0) ; F(0): 0", 14, "a closed kind has no value")
        self.problem("..; ab(1, 0);F(0): 0", 13, "a closed kind has no value")
        self.assertIs(is_program(read_program("ab(0) | ..; F(0): 0")), True)
        self.assertIs(is_program(read_program("ab(1); ..; F(0): 0")), True)
        self.assertIs(is_program(read_program("ab(1); cd(2); ef | gh(0); F(0): 0")), True)

    def test_problems_of_generics(self):
        self.assertIs(is_program(read_program("ab; F(0): 0; G(0): 0; H(0): 0; I(0): 0")), True)
        self.problem("ab; F(0): 0; G(0): 0; H(0): 0; I(0): 0; J(0): 0", 41, "there are at most 4 generics")
        self.problem("ab; F(0): 0; Fa(0): 0; F(0, 0): 0", 24, "this name stands already")

    def test_definitions(self):
        many = "; ".join(f"F(ab, {chain_text(n)}) = ab" for n in range(11)) + "; F(cd(a), a) = a"
        more = "; ".join(f"G({chain_text(n)}) = ab" for n in range(4))
        ahead = "ab | cd(0); F(0, 0): 0; G(0): 0; H(0): 0; "
        self.assertEqual(len(read_program(ahead + many + "; " + more)[2]), 16)
        full = ahead + many + "; " + more + "; "
        for last in ("G(cd(cd(cd(cd(a))))) = ab", "F(a, b) = ab", "X(a) = ab", "H(a) = ab"):
            self.problem(full + last, len(full) + 1, "there are at most 16 definitions")
        twelve = ahead + many + "; "
        for last in ("F(a, b) = ab", "F(ab, ab) = ab", "F(a) = ab"):
            self.problem(twelve + last, len(twelve) + 1, "a generic has at most 12 definitions")
        self.assertEqual(len(read_program(twelve + "G(a) = ab; H(a) = a")[2]), 14)

    def test_problems_of_the_generic_of_a_definition(self):
        self.problem("ab; F(0): 0; G(a) = a", 14, "there is no such generic")
        self.problem("ab; F(0): 0; F(a) = a; G(a) = a", 24, "there is no such generic")
        self.problem("ab; F(0): 0; F(a, b) = a", 14, "this generic has another number of parameters")
        self.problem("ab; F(0, 0): 0; F(a) = a", 17, "this generic has another number of parameters")
        self.problem("ab; F(0, 0): 0; F(a, zz, b) = a", 17, "this generic has another number of parameters")

    def test_problems_of_patterns(self):
        ahead = "ab | cd(0) | ef(0, 0); gh(0) | ..; F(0, 1): 0; "
        start = len(ahead) + 1
        self.problem(ahead + "F(a, a) = ab", start + 5, "this is of another kind")
        self.problem(ahead + "F(ef(a, b), gh(c)) = ab; F(b, gh(a)) = ab; F(a, b) = a; F(cd(b), b) = b", start + 65,
                     "this is of another kind")
        self.problem(ahead + "F(zz, a) = ab", start + 2, "there is no such constructor")
        self.problem(ahead + "F(gh(a), b) = ab", start + 2, "this is of another kind")
        self.problem(ahead + "F(a, cd(b)) = ab", start + 5, "this is of another kind")
        self.problem(ahead + "F(a, gh(gh(b))) = ab", start + 8, "this is of another kind")
        self.problem(ahead + "F(cd, a) = ab", start + 2, "this constructor has another number of parts")
        self.problem(ahead + "F(ab(a), a) = ab", start + 2, "this constructor has another number of parts")
        self.problem(ahead + "F(ef(cd(a, b), c), a) = ab", start + 5, "this constructor has another number of parts")
        self.problem(ahead + "F(a, b) = ab; F(b, a) = b", start + 22, "this pattern stands already")
        self.problem(ahead + "F(a, b) = ab; F(cd(a), b) = ab; F(cd(q), r) = q", start + 44, "this pattern stands already")
        # Alike ones that are not equal, and equal ones of two generics.
        self.assertIs(is_program(read_program(ahead + "F(ef(a, b), c) = ab; F(ef(a, a), c) = ab")), True)
        self.assertIs(is_program(read_program("ab; F(0): 0; G(0): 0; F(a) = a; G(a) = a; G(ab) = ab; F(ab) = ab")), True)

    def test_places_of_patterns_and_bodies(self):
        ahead = "ab | cd(0); F(0): 0; "
        for n, right in ((11, True), (12, False)):
            for text, column, problem in ((f"F({chain_text(n)}) = ab", 2, "a pattern has at most 12 places"),
                                          (f"F(a) = {chain_text(n)}", 7, "a body has at most 12 places"),
                                          (f"F(a) = {chain_text(n, 'F', 'a')}", 7, "a body has at most 12 places")):
                if right:
                    self.assertIs(is_program(read_program(ahead + text)), True)
                else:
                    step = 2 if "F(F" in text else 3
                    self.problem(ahead + text, len(ahead) + column + 1 + 12 * step, problem)
        # All terms of a pattern count together.
        wide = "ab | cd(0, 0); F(0, 0): 0; F(cd(cd(a, a), cd(a, a)), cd(a, cd(a, a))) = ab"
        self.assertIs(is_program(read_program(wide)), True)
        wide = "ab | cd(0, 0); F(0, 0): 0; F(cd(cd(a, a), cd(a, a)), cd(a, cd(a, cd(a, a)))) = ab"
        self.problem(wide, wide.index("a, a)))) = ab") + 1, "a pattern has at most 12 places")

    def test_problems_of_bodies(self):
        ahead = "ab | cd(0); gh(0) | ..; F(0, 1): 0; G(0): 1; F(a, b) = "
        start = len(ahead) + 1
        self.problem(ahead + "c", start, "the pattern does not have this variable")
        self.problem(ahead + "cd(c)", start + 3, "the pattern does not have this variable")
        self.problem(ahead + "b", start, "this is of another kind")
        self.problem(ahead + "F(a, a)", start + 5, "this is of another kind")
        self.problem(ahead + "zz", start, "there is no such constructor")
        self.problem(ahead + "Z(a)", start, "there is no such generic")
        self.problem(ahead + "gh(a)", start, "this is of another kind")
        self.problem(ahead + "G(a)", start, "this is of another kind")
        self.problem(ahead + "F(G(a), b)", start + 2, "this is of another kind")
        self.problem(ahead + "cd", start, "this constructor has another number of parts")
        self.problem(ahead + "ab(a)", start, "this constructor has another number of parts")
        self.problem(ahead + "cd(cd(a, a))", start + 3, "this constructor has another number of parts")
        self.problem(ahead + "F(a)", start, "this generic has another number of parameters")
        self.problem(ahead + "F(a, b, b)", start, "this generic has another number of parameters")
        self.problem(ahead + "F(a, G(a, a))", start + 5, "this generic has another number of parameters")
        self.assertIs(is_program(read_program(ahead + "F(F(a, G(ab)), gh(cd(a)))")), True)

    def test_two_problems_at_one_token(self):
        self.problem("ab; cd; ef; ab; F(0): 0", 13, "there are at most 3 kinds")
        self.problem("ab | cd | ef | gh | ab; F(0): 0", 21, "a kind has at most 4 constructors")
        self.problem("ab(0, 0, 7) | cd; F(0): 0", 10, "a constructor has at most 2 parts")
        self.problem("ab; F(0, 0, 0, 7): 0", 16, "a generic has at most 3 parameters")
        self.problem("ab; F(0): 0; G(0): 0; H(0): 0; I(0): 0; F(0): 0", 41, "there are at most 4 generics")
        ahead = "ab | cd(0); gh(0) | ..; F(0, 1): 0; "
        start = len(ahead) + 1
        self.problem(ahead + "F(gh, a) = ab", start + 2, "this is of another kind")
        self.problem(ahead + "F(zz(a, a, a), a) = ab", start + 2, "there is no such constructor")
        self.problem(ahead + "F(a, b) = gh", start + 10, "this is of another kind")
        self.problem(ahead + "F(a, b) = F(a, F(a))", start + 15, "this is of another kind")
        self.problem(ahead + "F(a, b) = Z(a)", start + 10, "there is no such generic")
        twelve = "cd(" * 11
        for last in ("zz", "gh", "cd"):
            text = ahead + "F(" + twelve + "cd(" + last + ")" * 12 + ", a) = ab"
            self.problem(text, start + 2 + 36, "a pattern has at most 12 places")
            text = ahead + "F(a, b) = " + twelve + "cd(" + last + ")" * 12
            self.problem(text, start + 10 + 36, "a body has at most 12 places")
        for last in ("c", "b", "Z(a)", "F(a)"):
            text = ahead + "F(a, b) = " + twelve + "cd(" + last + ")" * 12
            self.problem(text, start + 10 + 36, "a body has at most 12 places")
        self.problem(ahead + "F(" + twelve + "a" + ")" * 11 + ", a) = ab", start + 2 + 33 + 1 + 11 + 2,
                     "a pattern has at most 12 places")

    def test_two_problems_at_different_tokens(self):
        self.problem("ab(3) | ab; F(0): 0", 4, "there is no such kind")
        self.problem("ab | ab(3); F(0): 0", 6, "this name stands already")
        self.problem("ab(0); F(7): 0", 6, "a closed kind has no value")
        self.problem("ab; F(0): 7; F(0): 0; X(a) = a", 11, "there is no such kind")
        self.problem("ab; F(0): 0; F(zz) = zz", 16, "there is no such constructor")
        self.problem("ab; F(0): 0; F(a) = b; F(b) = a", 21, "the pattern does not have this variable")
        self.problem("ab; F(0): 0; F(a) = a; F(b) = zz", 29, "this pattern stands already")
        self.problem("ab; cd; ef; gh(9); F(9): 0", 13, "there are at most 3 kinds")
        # The text has five kinds, so there is one with the number 4; with the number 5 there is none.
        self.problem("ab(4); cd; ef; gh; ij; F(0): 0", 16, "there are at most 3 kinds")
        self.problem("ab(5); cd; ef; gh; ij; F(0): 0", 4, "there is no such kind")
        # What follows the grammar alone is read.
        text_error(self, 30, 'expected ";" or the end', read_program, "ab(5); ab; F(0): 0; F(a) = b =")

    def test_as_the_points_read(self):
        dice = random.Random(168)
        counts = {}
        for tokens, kind in some_token_rows(dice, 700):
            if kind == "use":
                continue
            for _ in range(6):
                row = exchanged_tokens(tokens, dice) if dice.random() < 0.9 else changed_tokens(tokens, dice)
                text = spaced(row, dice)
                right = told(plain_texts.read_program, text)
                self.assertEqual(told(read_program, text), right)
                if len(right) == 3:
                    self.assertIs(is_program(right), True)
                word = right[1] if len(right) == 2 else "fine"
                counts[word] = counts.get(word, 0) + 1
        for word in ("fine", "there is no such kind", "this name stands already", "there is no such generic",
                     "this generic has another number of parameters", "this is of another kind", "there is no such constructor",
                     "this constructor has another number of parts", "this pattern stands already",
                     "the pattern does not have this variable"):
            self.assertGreater(counts.get(word, 0), 4, word)


def chain_text(many, name="cd", last="ab"):
    return f"{name}(" * many + last + ")" * many


def spaced(tokens, dice):
    """A text with these tokens, with some blanks where there need not be any."""
    text = " " * dice.choice((0, 0, 1))
    for at, token in enumerate(tokens):
        text += token
        following = tokens[at + 1] if at + 1 < len(tokens) else ""
        needed = token[-1].isalnum() and following[:1].isalnum() and not following[:1].isupper()
        text += " " * (dice.choice((1, 1, 2)) if needed else dice.choice((0, 1)))
        if token == ".." and following == "..":
            text += " "
    return text


class Point169(unittest.TestCase):
    PROGRAM = read_program("ab | cd(0); gh(0) | pp(1, 1) | ..; F(0, 1): 0; G(1): 1")

    def problem(self, text, column, problem):
        text_error(self, column, problem, read_use, self.PROGRAM, text)
        with self.assertRaises(plain_texts.Problem) as caught:
            plain_texts.read_use(self.PROGRAM, text)
        self.assertEqual(caught.exception.args, (column, problem))

    def test_uses(self):
        for text, use in (("F(ab, #0)", ("F", ("ab",), ("#", 0))), (" G ( gh ( cd ( ab ) ) ) ", ("G", ("gh", ("cd", ("ab",))))),
                          ("G(#000012)", ("G", ("#", 12))), ("G(# 999999)", ("G", ("#", 999999))),
                          ("G(pp(#1,#1))", ("G", ("pp", ("#", 1), ("#", 1))))):
            self.assertEqual(read_use(self.PROGRAM, text), use)

    def test_problems(self):
        self.problem("H(ab)", 1, "there is no such generic")
        self.problem("F(ab)", 1, "this generic has another number of parameters")
        self.problem(" G(#0, #1)", 2, "this generic has another number of parameters")
        self.problem("F(#0, #0)", 3, "a closed kind has no strangers")
        self.problem("F(ab, gh(# 7))", 10, "a closed kind has no strangers")
        self.problem("G(zz)", 3, "there is no such constructor")
        self.problem("G(cd(ab))", 3, "this is of another kind")
        self.problem("F(cd(gh(ab)), #0)", 6, "this is of another kind")
        self.problem("G(pp(#0))", 3, "this constructor has another number of parts")
        self.problem("G(gh)", 3, "this constructor has another number of parts")
        self.problem("F(ab(ab), #0)", 3, "this constructor has another number of parts")

    def test_two_problems(self):
        self.problem("H(zz, zz, zz)", 1, "there is no such generic")
        self.problem("F(zz)", 1, "this generic has another number of parameters")
        self.problem("G(cd)", 3, "this is of another kind")
        self.problem("G(pp(zz, cd))", 6, "there is no such constructor")
        self.problem("G(pp(cd(ab), zz))", 6, "this is of another kind")
        self.problem("F(#0, zz)", 3, "a closed kind has no strangers")

    def test_arguments_of_60_and_61_places(self):
        for inner in ("ab", "zz", "gh", "#0"):
            text = f"F({chain_text(60, 'cd', inner)}, #0)"
            self.problem(text, 3 + 60 * 3, "an argument has at most 60 places")
        text = f"F({chain_text(59)}, {'pp(#1, ' * 29}gh(ab{')' * 31}"
        self.assertEqual(read_use(self.PROGRAM, text)[1], chain("cd", 59, ("ab",)))
        # Each argument by itself: the second one has 60 places and 61.
        right = "gh(" + chain_text(58) + ")"
        self.assertIs(is_use(self.PROGRAM, read_use(self.PROGRAM, f"F({chain_text(59)}, {right})")), True)
        text = f"F(ab, pp(#1, gh({chain_text(57)})))"
        self.problem(text, text.index("ab)", 10) + 1, "an argument has at most 60 places")
        text = f"F(ab, pp(gh({chain_text(57)}), #1))"
        self.problem(text, text.index("#") + 1, "an argument has at most 60 places")
        text = f"F(ab, pp(gh({chain_text(56)}), #1))"
        self.assertIs(is_use(self.PROGRAM, read_use(self.PROGRAM, text)), True)

    def test_strangers_of_six_and_seven_digits(self):
        self.assertEqual(read_use(self.PROGRAM, "G(#999999)"), ("G", ("#", 999999)))
        text_error(self, 4, "a number has at most 6 digits", read_use, self.PROGRAM, "G(#1000000)")
        text_error(self, 4, "a number has at most 6 digits", read_use, self.PROGRAM, "G(#0000000)")

    def test_as_the_point_reads(self):
        dice = random.Random(169)
        counts = {}
        for _, program in some_programs(250, 169):
            tokens = [token[1] for token in scan(use_text(program, some_use(program, dice)))[:-1]]
            names = [name for _, row in program[0] for name, _ in row] + ["zz"]
            for _ in range(5):
                row = list(tokens)
                for at, token in enumerate(row):
                    if dice.random() < 0.15:
                        if len(token) > 1 and token.islower():
                            row[at] = dice.choice(names)
                        elif token[0].isupper():
                            row[at] = dice.choice([name for name, _, _ in program[1]] + ["X"])
                text = spaced(row if dice.random() < 0.9 else changed_tokens(row, dice), dice)
                right = told(plain_texts.read_use, program, text)
                self.assertEqual(told(read_use, program, text), right)
                word = right[1] if isinstance(right[0], int) else "fine"
                counts[word] = counts.get(word, 0) + 1
        for word in ("fine", "there is no such generic", "this generic has another number of parameters",
                     "there is no such constructor",
                     "this is of another kind", "this constructor has another number of parts"):
            self.assertGreater(counts.get(word, 0), 9, word)


class Point172(unittest.TestCase):
    def test_the_first_wrong_argument_is_named(self):
        program = read_program(SIZE)
        wrong_texts = [wrong for wrong in (*NOTHINGS, *deep_things()) if not isinstance(wrong, str)]
        for wrong in (*wrong_texts, "a\nb", "\n", " " * 8001, "." * 8001, b"ab", ["ab"]):
            bad(self, "text", next_tokens, wrong, None)
            bad(self, "text", next_tokens, wrong, "use")
            bad(self, "text", read_program, wrong)
            bad(self, "text", read_use, program, wrong)
        for wrong in (*NOTHINGS, *deep_things(), "PROGRAM", "Use", "uses", "programs", ("use",), "values"):
            bad(self, "kind", next_tokens, "", wrong)
            bad(self, "kind", next_tokens, "?", wrong)
        for wrong in (*NOTHINGS, *deep_things()):
            bad(self, "program", read_use, wrong, None)
            bad(self, "program", read_use, wrong, "?")

    def test_texts_of_8000_characters(self):
        text = SIZE + " " * (8000 - len(SIZE))
        self.assertEqual(read_program(text), read_program(SIZE))
        self.assertEqual(next_tokens(text, "program"), words("; e"))
        bad(self, "text", read_program, text + " ")
        self.assertEqual(read_use(read_program(SIZE), "Size(int)" + " " * 7991), ("Size", ("int",)))
        bad(self, "text", read_use, read_program(SIZE), "Size(int)" + " " * 7992)

    def test_types(self):
        self.assertEqual(read_use((TYPES, (("F", (0,), 0),), ()), "F(pair(int, #3))"), ("F", ("pair", ("int",), ("#", 3))))


if __name__ == "__main__":
    unittest.main()
