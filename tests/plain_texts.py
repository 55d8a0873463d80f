"""Points 162 to 171, read plainly: slow, for small things only, and apart from the program.

The grammar is the document's own text. A problem is a pair of column and words.
"""

import re

from tests.plain_programs import is_use

TOKENS = re.compile(r"([a-z]{2,})|([a-z])|([A-Z][a-z]*)|([0-9]+)|(\.\.|[(),;:=|#])")
KINDS = ("constructor", "variable", "generic", "number", "sign")
WORDS = ["a variable", "a constructor", "a generic", "a number", *[f'"{sign}"' for sign in
         ("(", ")", ",", ";", ":", "=", "|", "..", "#")], "the end"]
GRAMMAR = '''
PROGRAM  = KIND { ";" KIND } ";" HEAD { ";" HEAD } { ";" DEFINED } END
KIND     = ".." | FORM { "|" FORM } [ "|" ".." ]
FORM     = CONSTRUCTOR [ "(" NUMBER { "," NUMBER } ")" ]
HEAD     = GENERIC "(" NUMBER { "," NUMBER } ")" ":" NUMBER
DEFINED  = GENERIC "(" TERM { "," TERM } ")" "=" BODY
TERM     = VARIABLE | CONSTRUCTOR [ "(" TERM { "," TERM } ")" ]
BODY     = VARIABLE | CONSTRUCTOR [ "(" BODY { "," BODY } ")" ] | GENERIC "(" BODY { "," BODY } ")"
USE      = GENERIC "(" VALUE { "," VALUE } ")" END
VALUE    = "#" NUMBER | CONSTRUCTOR [ "(" VALUE { "," VALUE } ")" ]
'''
LEAVES = {"VARIABLE": "a variable", "CONSTRUCTOR": "a constructor", "GENERIC": "a generic", "NUMBER": "a number",
          "END": "the end"}


class Problem(Exception):
    pass


def scan(text):
    """Points 162 and 163."""
    tokens = []
    at = 0
    while at < len(text):
        if text[at] == " ":
            at += 1
            continue
        found = TOKENS.match(text, at)
        if found is None:
            raise Problem(at + 1, "no token begins here")
        kind = KINDS[found.lastindex - 1]
        if kind in ("constructor", "generic") and len(found.group()) > 8:
            raise Problem(at + 1, "a name has at most 8 letters")
        if kind == "number" and len(found.group()) > 6:
            raise Problem(at + 1, "a number has at most 6 digits")
        tokens.append((kind, found.group(), at + 1))
        at = found.end()
    return [*tokens, ("end", "", len(text) + 1)]


def grammar():
    """For each name what it stands for: nested pairs with one of the words alt, seq, opt, many, word, name."""
    found = {}
    for line in GRAMMAR.strip().split("\n"):
        name, _, rest = line.partition(" = ")
        items = rest.split()
        found[name.strip()] = alternatives(items)
        assert items == []
    return found


def alternatives(items):
    rows = [[]]
    while items and items[0] not in ("]", "}"):
        item = items.pop(0)
        if item == "|":
            rows.append([])
        elif item in ("[", "{"):
            rows[-1].append(("opt" if item == "[" else "many", alternatives(items)))
            items.pop(0)
        elif item[0] == '"':
            rows[-1].append(("word", item))
        else:
            rows[-1].append(("word", LEAVES[item]) if item in LEAVES else ("name", item))
    return ("alt", [("seq", row) for row in rows])


RULES = grammar()


def steps(todo):
    """The pairs of a word that can come next, and what is to do behind it. What is to do is a list, the next at the end."""
    if not todo:
        return []
    *rest, (form, what) = todo
    if form == "word":
        return [(what, rest)]
    if form == "name":
        return steps([*rest, RULES[what]])
    if form == "alt":
        return [step for each in what for step in steps([*rest, each])]
    if form == "seq":
        return steps([*rest, *what[::-1]])
    further = [*rest, (form, what)] if form == "many" else rest
    return steps(rest) + steps([*further, what])


def word_of(token):
    return "the end" if token[0] == "end" else f'"{token[1]}"' if token[0] == "sign" else "a " + token[0]


def can_come(ways):
    words = {word for todo in ways for word, _ in steps(todo)}
    return [word for word in WORDS if word in words]


def expected(words):
    return "expected " + (words[0] if len(words) == 1 else ", ".join(words[:-1]) + " or " + words[-1])


def follow(tokens, kind):
    """What can be to do behind the tokens."""
    ways = [[("name", kind.upper())]]
    for token in tokens:
        further = []
        for todo in ways:
            further += [rest for word, rest in steps(todo) if word == word_of(token) and rest not in further]
        if not further:
            raise Problem(token[2], expected(can_come(ways)))
        ways = further
    return ways


def next_tokens(text, kind):
    return can_come(follow(scan(text)[:-1], kind))


# What the tokens mean. A tree is a list: the token, and the trees of the items in parentheses, or None without any.

def trees(tokens):
    """The trees of the items up to a token that closes them, which stays."""
    found = []
    while True:
        token = tokens.pop(0)
        if token[1] == "#":
            number = tokens.pop(0)
            token = ("stranger", int(number[1]), token[2])
        items = None
        if tokens and tokens[0][1] == "(":
            tokens.pop(0)
            items = trees(tokens)
            tokens.pop(0)
        found.append([token, items])
        if not tokens or tokens[0][1] != ",":
            return found
        tokens.pop(0)


def split(tokens, sign):
    rows = [[]]
    for token in tokens:
        if token[1] == sign:
            rows.append([])
        else:
            rows[-1].append(token)
    return rows


def listed(tree):
    """The trees from left to right."""
    return [tree] + [inner for item in tree[1] or [] for inner in listed(item)]


def read_program(text):
    """The program, or Problem."""
    tokens = scan(text)
    follow(tokens, "program")
    ends = [token for token in tokens if token[1] == ";" or token[0] == "end"]
    rows = split(tokens[:-1], ";")
    kinds = [row for row in rows if row[0][0] != "generic"]
    heads = [row for row in rows if row[0][0] == "generic" and "=" not in [token[1] for token in row]]
    definitions = [row for row in rows if row[0][0] == "generic" and "=" in [token[1] for token in row]]
    reader = Reader(kinds, heads, definitions, ends[len(kinds) - 1])
    reader.find_problems()
    if reader.problems:
        column, _, words = min(reader.problems)
        raise Problem(column, words)
    return reader.program()


class Reader:
    """Finds all problems; what is not known because of another problem ahead is None, and makes none."""

    def __init__(self, kinds, heads, definitions, end):
        self.kinds = [[trees(list(form))[0] for form in split(row, "|")] for row in kinds]
        self.heads = [(trees(list(row))[0], row[-1]) for row in heads]
        self.definitions = [(*[trees(list(side))[0] for side in split(row, "=")], [token for token in row if token[1] == "="][0])
                            for row in definitions]
        self.end = end
        self.problems = []
        self.rank = 0
        self.constructors = {}
        for number, forms in enumerate(self.kinds):
            for token, items in forms:
                if token[0] == "constructor":
                    self.constructors.setdefault(token[1], (number, [int(item[0][1]) for item in items or []]))
        self.generics = {}
        for tree, last in self.heads:
            self.generics.setdefault(tree[0][1], ([int(item[0][1]) for item in tree[1]], int(last[1])))

    def problem(self, token, words, wrong):
        """The problems are told in the order of the points, so a later one has a greater rank."""
        self.rank += 1
        if wrong:
            self.problems.append((token[2], self.rank, words))

    def find_problems(self):
        self.kind_problems()
        self.head_problems()
        before = []
        for defined in self.definitions:
            self.definition_problems(defined, before)
            before.append(defined)

    def kind_problems(self):
        for number, forms in enumerate(self.kinds):
            self.problem(forms[0][0], "there are at most 3 kinds", number == 3)
        seen = []
        for forms in self.kinds:
            for number, (token, _) in enumerate(form for form in forms if form[0][0] == "constructor"):
                self.problem(token, "a kind has at most 4 constructors", number == 4)
                self.problem(token, "this name stands already", token[1] in seen)
                seen.append(token[1])
        for forms in self.kinds:
            for _, items in forms:
                for number, (token, _) in enumerate(items or []):
                    self.problem(token, "a constructor has at most 2 parts", number == 2)
                    self.problem(token, "there is no such kind", int(token[1]) >= len(self.kinds))
        made = {number for number, forms in enumerate(self.kinds) if forms[-1][0][1] == ".."}
        for _ in self.kinds:
            made |= {number for number, parts in self.constructors.values() if made >= set(parts)}
        self.problem(self.end, "a closed kind has no value", len(made) < len(self.kinds))

    def head_problems(self):
        for number, (tree, last) in enumerate(self.heads):
            self.problem(tree[0], "there are at most 4 generics", number == 4)
            self.problem(tree[0], "this name stands already", tree[0][1] in [other[0][1] for other, _ in self.heads[:number]])
            for at, (token, _) in enumerate(tree[1]):
                self.problem(token, "a generic has at most 3 parameters", at == 3)
                self.problem(token, "there is no such kind", int(token[1]) >= len(self.kinds))
            self.problem(last, "there is no such kind", int(last[1]) >= len(self.kinds))

    def definition_problems(self, defined, before):
        left, right, sign = defined
        name = left[0][1]
        self.problem(left[0], "there are at most 16 definitions", len(before) == 16)
        self.problem(left[0], "there is no such generic", name not in self.generics)
        same = [other for other in before if other[0][0][1] == name]
        self.problem(left[0], "a generic has at most 12 definitions", len(same) == 12)
        kinds, kind = self.generics.get(name, (None, None))
        self.problem(left[0], "this generic has another number of parameters", kinds is not None and len(kinds) != len(left[1]))
        pattern = [inner for item in left[1] for inner in listed(item)]
        for number, (token, _) in enumerate(pattern):
            self.problem(token, "a pattern has at most 12 places", number == 12)
        known = {}
        for item, near in zip(left[1], kinds or []):
            self.term_problems(item, near, known, False)
        self.problem(sign, "this pattern stands already", self.pattern(left) in [self.pattern(other[0]) for other in same])
        for number, (token, _) in enumerate(listed(right)):
            self.problem(token, "a body has at most 12 places", number == 12)
        self.term_problems(right, kind, known, True)

    def term_problems(self, tree, kind, known, in_body):
        token, items = tree
        if token[0] == "variable":
            if in_body:
                self.problem(token, "the pattern does not have this variable", token[1] not in known)
            else:
                known.setdefault(token[1], kind)
            self.problem(token, "this is of another kind", kind is not None and known.get(token[1], kind) != kind)
            return
        if token[0] == "constructor":
            self.problem(token, "there is no such constructor", token[1] not in self.constructors)
            own, parts = self.constructors.get(token[1], (kind, None))
            word = "this constructor has another number of parts"
        else:
            self.problem(token, "there is no such generic", token[1] not in self.generics)
            parts, own = self.generics.get(token[1], (None, kind))
            word = "this generic has another number of parameters"
        self.problem(token, "this is of another kind", kind is not None and own != kind)
        self.problem(token, word, parts is not None and len(parts) != len(items or []))
        for item, near in zip(items or [], [*(parts or []), *[None] * 99]):
            self.term_problems(item, near, known, in_body)

    def pattern(self, left):
        letters = {}
        return tuple(self.term(item, letters) for item in left[1])

    def term(self, tree, letters):
        token, items = tree
        if token[0] == "variable":
            return letters.setdefault(token[1], len(letters))
        return (token[1], *[self.term(item, letters) for item in items or []])

    def program(self):
        signature = tuple(("open" if forms[-1][0][1] == ".." else "closed", tuple(
            (token[1], tuple(int(item[0][1]) for item in items or [])) for token, items in forms if token[0] == "constructor"))
            for forms in self.kinds)
        generics = tuple((name, tuple(kinds), kind) for name, (kinds, kind) in self.generics.items())
        definitions = []
        for left, right, _ in self.definitions:
            letters = {}
            pattern = tuple(self.term(item, letters) for item in left[1])
            definitions.append((left[0][1], pattern, self.term(right, letters)))
        return signature, generics, tuple(definitions)


def read_use(program, text):
    """The use, or Problem."""
    tokens = scan(text)
    follow(tokens, "use")
    (used, items), = trees(list(tokens))
    signature, generics, _ = program
    found = {name: kinds for name, kinds, _ in generics}
    if used[1] not in found:
        raise Problem(used[2], "there is no such generic")
    if len(found[used[1]]) != len(items):
        raise Problem(used[2], "this generic has another number of parameters")
    constructors = {name: (kind, parts) for kind, (_, row) in enumerate(signature) for name, parts in row}

    def value(tree, kind, count):
        token, inner = tree
        count.append(token)
        if len(count) == 61:
            raise Problem(token[2], "an argument has at most 60 places")
        if token[0] == "stranger":
            if signature[kind][0] == "closed":
                raise Problem(token[2], "a closed kind has no strangers")
            return ("#", token[1])
        if token[1] not in constructors:
            raise Problem(token[2], "there is no such constructor")
        own, parts = constructors[token[1]]
        if own != kind:
            raise Problem(token[2], "this is of another kind")
        if len(parts) != len(inner or []):
            raise Problem(token[2], "this constructor has another number of parts")
        return (token[1], *[value(item, near, count) for item, near in zip(inner or [], parts)])
    use = (used[1], *[value(item, kind, []) for item, kind in zip(items, found[used[1]])])
    assert is_use(program, use)
    return use


# Writing.

def text_of(term):
    """Point 170."""
    if isinstance(term, int):
        return "abcdefghijkl"[term]
    if term[0] == "#":
        return "#" + str(term[1])
    return term[0] + ("(" + ", ".join(text_of(part) for part in term[1:]) + ")" if len(term) > 1 else "")


def program_text(program):
    signature, generics, definitions = program
    parts = []
    for how, constructors in signature:
        forms = [name + (f"({', '.join(map(str, kinds))})" if kinds else "") for name, kinds in constructors]
        parts.append(" | ".join(forms + [".."] * (how == "open")))
    for name, kinds, kind in generics:
        parts.append(f"{name}({', '.join(map(str, kinds))}): {kind}")
    for name, pattern, body in definitions:
        parts.append(f"{text_of((name, *pattern))} = {text_of(body)}")
    return "; ".join(parts)
