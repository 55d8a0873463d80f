"""Signatures and odd values that several tests use."""

import random

# Point 22: numbers, and boxes with a number in them.
NUMBERS = (("closed", (("zero", ()), ("next", (0,)))), ("open", (("box", (0,)),)))
# Points 36 and 48: types of a language, to which others may add.
TYPES = (("open", (("int", ()), ("ptr", (0,)), ("pair", (0, 0)))),)
# A closed kind that is finite and has only one value.
ONE = (("closed", (("one", ()),)),)
# Three finite kinds of the heights 0, 1 and 2 with as many values as there can be: 4, 64 and 16384.
BIG = (
    ("closed", (("aa", ()), ("bb", ()), ("cc", ()), ("dd", ()))),
    ("closed", (("ea", (0, 0)), ("eb", (0, 0)), ("ec", (0, 0)), ("ed", (0, 0)))),
    ("closed", (("fa", (1, 1)), ("fb", (1, 1)), ("fc", (1, 1)), ("fd", (1, 1)))),
)
# A closed kind of trees whose leaves are of an open kind, and a finite kind.
MIXED = (
    ("closed", (("leaf", (1,)), ("fork", (0, 0)))),
    ("open", (("flag", (2,)), ("tree", (0,)))),
    ("closed", (("yes", ()), ("no", ()))),
)

# No integers, though some of them look like one.
NO_INTEGERS = (True, False, None, "0", "", (), (0,), [], [0])

# Nothing that has the form of anything.
NOTHINGS = (None, True, False, 0, 1, -1, "", "is", "kind", (), [], {}, ((),), ([],), (None,), ((((),),),), b"ab", 1.5)


def chain(name, many, last):
    """A value with so many constructors around the last one."""
    value = last
    for _ in range(many):
        value = (name, value)
    return value


def deep_things():
    """Things that are nested some thousand deep, or that are told by few tuples and have very many places."""
    nest = ()
    for _ in range(5000):
        nest = (nest,)
    listed = []
    for _ in range(5000):
        listed = [listed]
    wide = ("int",)
    for _ in range(200):
        wide = ("pair", wide, wide)
    words = ("is", ())
    for _ in range(5000):
        words = ("split", 0, (words, words))
    return [nest, (nest,), (nest, nest), listed, (listed,), chain("next", 5000, ("zero",)),
            (chain("next", 5000, ("zero",)),), chain("ptr", 5000, ("int",)), (chain("ptr", 5000, ("int",)),),
            wide, (wide,), (wide, wide), words, (words,), ("is", nest), ("is", (nest,)), ("is", wide)]


def bad(case, name, function, *arguments):
    """The call raises BadValue with this name."""
    from closestfit.errors import BadValue
    with case.assertRaises(BadValue) as caught:
        function(*arguments)
    case.assertEqual(caught.exception.name, name)


def too_large(case, what, function, *arguments):
    from closestfit.errors import TooLarge
    with case.assertRaises(TooLarge) as caught:
        function(*arguments)
    case.assertEqual(caught.exception.what, what)


def not_possible(case, why, function, *arguments):
    from closestfit.errors import NotPossible
    with case.assertRaises(NotPossible) as caught:
        function(*arguments)
    case.assertEqual(caught.exception.why, why)


def some_signatures(many, seed):
    """Signatures of all shapes, always the same ones."""
    from closestfit.kinds import is_signature
    dice = random.Random(seed)
    found = []
    while len(found) < many:
        names = iter("ab ac ad ae af ag ah ai aj ak al am".split())
        kinds = range(dice.randint(1, 3))
        signature = tuple([
            (dice.choice(("closed", "closed", "open")), tuple([
                (next(names), tuple([dice.choice(kinds) for _ in range(dice.choice((0, 0, 1, 2)))]))
                for _ in range(dice.randint(0, 4))]))
            for _ in kinds])
        if is_signature(signature):
            found.append(signature)
    return found


def text_error(case, column, words, function, *arguments):
    from closestfit.errors import TextError
    with case.assertRaises(TextError) as caught:
        function(*arguments)
    case.assertEqual((caught.exception.column, caught.exception.words), (column, words))
