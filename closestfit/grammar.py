"""The grammars of texts, and what can come at a place in a text.

What is still to come in a text is a stack of symbols, the next one at its
end. A symbol is the word for a token, or the name of rules, in one of which
it is replaced by further symbols. No rule but the empty one begins with a
symbol that can be replaced by nothing, and two rules of one name never begin
with the same token; so the next token always tells which rule it is.
"""

from closestfit.errors import TextError

WORDS = ("a variable", "a constructor", "a generic", "a number",
         '"("', '")"', '","', '";"', '":"', '"="', '"|"', '".."', '"#"', "the end")
STARTS = {"program": "PROGRAM", "use": "USE"}
RULES = {
    "PROGRAM": (("KIND", '";"', "BEHIND KIND"),),
    "BEHIND KIND": (("KIND", '";"', "BEHIND KIND"), ("a generic", '"("', "HEAD", "BEHIND HEAD")),
    "KIND": (('".."',), ("a constructor", "FORM PARTS", "FURTHER FORMS")),
    "FURTHER FORMS": ((), ('"|"', "KIND")),
    "FORM PARTS": ((), ('"("', "NUMBERS", '")"')),
    "NUMBERS": (("a number", "FURTHER NUMBERS"),),
    "FURTHER NUMBERS": ((), ('","', "NUMBERS")),
    "HEAD": (("NUMBERS", '")"', '":"', "a number"),),
    "BEHIND HEAD": (("the end",), ('";"', "a generic", '"("', "HEAD OR DEFINED")),
    "HEAD OR DEFINED": (("HEAD", "BEHIND HEAD"), ("DEFINED", "BEHIND DEFINED")),
    "DEFINED": (("TERMS", '")"', '"="', "BODY"),),
    "BEHIND DEFINED": (("the end",), ('";"', "a generic", '"("', "DEFINED", "BEHIND DEFINED")),
    "TERMS": (("TERM", "FURTHER TERMS"),),
    "FURTHER TERMS": ((), ('","', "TERMS")),
    "TERM": (("a variable",), ("a constructor", "TERM PARTS")),
    "TERM PARTS": ((), ('"("', "TERMS", '")"')),
    "BODIES": (("BODY", "FURTHER BODIES"),),
    "FURTHER BODIES": ((), ('","', "BODIES")),
    "BODY": (("a variable",), ("a constructor", "BODY PARTS"), ("a generic", '"("', "BODIES", '")"')),
    "BODY PARTS": ((), ('"("', "BODIES", '")"')),
    "USE": (("a generic", '"("', "VALUES", '")"', "the end"),),
    "VALUES": (("VALUE", "FURTHER VALUES"),),
    "FURTHER VALUES": ((), ('","', "VALUES")),
    "VALUE": (('"#"', "a number"), ("a constructor", "VALUE PARTS")),
    "VALUE PARTS": ((), ('"("', "VALUES", '")"')),
}


def word_of(token):
    """The word by which the grammar tells of a token."""
    kind, characters, _ = token
    if kind == "end":
        return "the end"
    return f'"{characters}"' if kind == "sign" else f"a {kind}"


def beginnings(symbol):
    """The words of the tokens with which the symbol can begin."""
    found = []
    waiting = [symbol]
    while waiting:
        top = waiting.pop()
        if top in RULES:
            waiting += [rule[0] for rule in RULES[top] if rule]
        else:
            found.append(top)
    return found


def can_be_nothing(symbol):
    return symbol in RULES and () in RULES[symbol]


def can_come(stack):
    """The words of the tokens that can come next, in their order."""
    at = len(stack) - 1
    found = beginnings(stack[at])
    while can_be_nothing(stack[at]):
        at -= 1
        found += beginnings(stack[at])
    return [word for word in WORDS if word in found]


def take(stack, word):
    """Takes a token that can come off the stack."""
    top = stack.pop()
    while top != word:
        for rule in RULES[top]:
            if rule and word in beginnings(rule[0]):
                stack += rule[::-1]
        top = stack.pop()


def followed(tokens, kind):
    """What is still to come behind the tokens; raises TextError at the first one that cannot come at its place."""
    stack = [STARTS[kind]]
    for token in tokens:
        words = can_come(stack)
        if word_of(token) not in words:
            raise TextError(token[2], f"expected {listed(words)}")
        take(stack, word_of(token))
    return stack


def listed(words):
    if len(words) == 1:
        return words[0]
    return ", ".join(words[:-1]) + " or " + words[-1]
