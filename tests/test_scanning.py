"""Points 162 and 163: texts and their tokens."""

import random
import unittest

from closestfit.errors import TextError
from closestfit.scanning import scan
from tests import plain_texts
from tests.samples import NOTHINGS, bad, deep_things, text_error

BEGINS = "no token begins here"
LETTERS = "a name has at most 8 letters"
DIGITS = "a number has at most 6 digits"


def kinds_and_characters(text):
    return [token[:2] for token in scan(text)]


class Point162(unittest.TestCase):
    def test_columns_and_the_end(self):
        self.assertEqual(scan(""), [("end", "", 1)])
        self.assertEqual(scan("   "), [("end", "", 4)])
        self.assertEqual(scan("a"), [("variable", "a", 1), ("end", "", 2)])
        self.assertEqual(scan("  a  "), [("variable", "a", 3), ("end", "", 6)])
        self.assertEqual(scan("Add(zero, 12) = #3..  "), [
            ("generic", "Add", 1), ("sign", "(", 4), ("constructor", "zero", 5), ("sign", ",", 9), ("number", "12", 11),
            ("sign", ")", 13), ("sign", "=", 15), ("sign", "#", 17), ("number", "3", 18), ("sign", "..", 19), ("end", "", 23)])

    def test_lengths(self):
        self.assertEqual(scan(" " * 8000), [("end", "", 8001)])
        bad(self, "text", scan, " " * 8001)
        self.assertEqual(len(scan("(" * 8000)), 8001)
        bad(self, "text", scan, "(" * 8001)
        bad(self, "text", scan, "." * 8001)
        text_error(self, 7999, BEGINS, scan, "(" * 7998 + ".(")

    def test_newlines(self):
        for text in ("\n", "a\n", "\na", "a\nb", ".\n.", "a" * 9 + "\n"):
            bad(self, "text", scan, text)
        # A newline is the line feed alone.
        for letter in "\r\t\v\f\x1c\x85\u2028\u2029\x00":
            text_error(self, 1, BEGINS, scan, letter)
            text_error(self, 3, BEGINS, scan, "a " + letter)

    def test_wrong_arguments(self):
        for wrong in (*NOTHINGS, *deep_things()):
            if not isinstance(wrong, str):
                bad(self, "text", scan, wrong)
        bad(self, "text", scan, b"a")

    def test_a_list_that_is_changed_changes_nothing(self):
        """Point 2."""
        told = scan("a b")
        right = list(told)
        told.clear()
        self.assertEqual(scan("a b"), right)
        self.assertIsInstance(scan("a b"), list)


class Point163(unittest.TestCase):
    def test_kinds_of_tokens(self):
        for text, kind in (("a", "variable"), ("z", "variable"), ("ab", "constructor"), ("zz", "constructor"),
                           ("abcdefgh", "constructor"),
                           ("A", "generic"), ("Z", "generic"), ("Az", "generic"), ("Abcdefgh", "generic"), ("0", "number"),
                           ("9", "number"), ("000000", "number"), ("123456", "number"), ("007", "number"), ("(", "sign"),
                           (")", "sign"),
                           (",", "sign"), (";", "sign"), (":", "sign"), ("=", "sign"), ("|", "sign"), ("..", "sign"),
                           ("#", "sign")):
            self.assertEqual(scan(text), [(kind, text, 1), ("end", "", len(text) + 1)])

    def test_as_long_as_possible(self):
        self.assertEqual(kinds_and_characters("abAbAABbc"), [("constructor", "ab"), ("generic", "Ab"), ("generic", "A"),
                                                             ("generic", "A"),
                                                              ("generic", "Bbc"), ("end", "")])
        self.assertEqual(kinds_and_characters("aA1b2cd34"), [("variable", "a"), ("generic", "A"), ("number", "1"),
                                                             ("variable", "b"),
                                                              ("number", "2"), ("constructor", "cd"), ("number", "34"),
                                                             ("end", "")])
        self.assertEqual(kinds_and_characters("a b ab"), [("variable", "a"), ("variable", "b"), ("constructor", "ab"),
                                                          ("end", "")])
        self.assertEqual(kinds_and_characters("1 2 12"), [("number", "1"), ("number", "2"), ("number", "12"), ("end", "")])
        self.assertEqual(kinds_and_characters("...."), [("sign", ".."), ("sign", ".."), ("end", "")])
        self.assertEqual(kinds_and_characters("==::"), [("sign", "=")] * 2 + [("sign", ":")] * 2 + [("end", "")])
        self.assertEqual(kinds_and_characters("A bc"), [("generic", "A"), ("constructor", "bc"), ("end", "")])

    def test_what_begins_no_token(self):
        for letter in "._-+*/<>!?[]{}'\"\\@$&~^`\t\r" + chr(37):
            text_error(self, 1, BEGINS, scan, letter)
            text_error(self, 4, BEGINS, scan, "ab " + letter + " ..")
        for text, column in ((".", 1), ("...", 3), (". .", 1), ("a.b", 2), (".....", 5), ("a .", 3)):
            text_error(self, column, BEGINS, scan, text)
        self.assertEqual(len(scan("......")), 4)

    def test_letters_and_digits_of_other_scripts(self):
        for letter in "\u00e9\u00c9\u0430\u0410\u00df\u0661\u00b2\uff11\uff41\uff21\u0130\u01c5\u00aa":
            text_error(self, 1, BEGINS, scan, letter)
            text_error(self, 2, BEGINS, scan, "a" + letter)
            text_error(self, 3, BEGINS, scan, "Aa" + letter)
            text_error(self, 2, BEGINS, scan, "1" + letter)

    def test_names_of_eight_and_nine_letters(self):
        self.assertEqual(scan("abcdefgh Abcdefgh"), [("constructor", "abcdefgh", 1), ("generic", "Abcdefgh", 10),
                                                     ("end", "", 18)])
        text_error(self, 1, LETTERS, scan, "abcdefghi")
        text_error(self, 3, LETTERS, scan, "a Abcdefghi")
        text_error(self, 2, LETTERS, scan, "(" + "z" * 7000)
        self.assertEqual(len(scan("Abcdefgh" * 20)), 21)
        text_error(self, 8 * 19 + 1, LETTERS, scan, "Abcdefgh" * 20 + "i")

    def test_numbers_of_six_and_seven_digits(self):
        self.assertEqual(scan("999999")[0], ("number", "999999", 1))
        self.assertEqual(scan("000000")[0], ("number", "000000", 1))
        text_error(self, 1, DIGITS, scan, "1000000")
        text_error(self, 1, DIGITS, scan, "0000000")
        text_error(self, 3, DIGITS, scan, "a 0000001")
        text_error(self, 1, DIGITS, scan, "1" * 5000)

    def test_the_first_token_with_a_problem(self):
        text_error(self, 3, LETTERS, scan, "a abcdefghi . 1234567")
        text_error(self, 3, BEGINS, scan, "a . abcdefghi 1234567")
        text_error(self, 3, DIGITS, scan, "a 1234567 . abcdefghi")

    def test_as_the_point_reads(self):
        dice = random.Random(163)
        fine = 0
        for _ in range(3000):
            text = "".join(dice.choice("aabzAZ019  (),;:=|..#.") for _ in range(dice.randint(0, 14)))
            if dice.random() < 0.2:
                text += dice.choice(("abcdefgh", "Abcdefghi", "123456", "1234567", "b" * 9, "\t", "\u00e4"))
            try:
                right = plain_texts.scan(text)
            except plain_texts.Problem as problem:
                text_error(self, *problem.args, scan, text)
                continue
            self.assertEqual(scan(text), right)
            fine += 1
        self.assertGreater(fine, 800)

    def test_the_error_is_a_fit_error(self):
        with self.assertRaises(ValueError) as caught:
            scan("?")
        self.assertIsInstance(caught.exception, TextError)


if __name__ == "__main__":
    unittest.main()
