"""Checks of the files of the package against the rules of the language that are easy to check.

    python3 .ci/language.py FOLDER

prints a line for each breach, and exits with 1 if there is one.
"""

import ast
import builtins
import os
import sys

ALLOWED_BUILTINS = set(
    "len range enumerate zip min max sum abs sorted reversed int str bool list tuple dict set isinstance ord repr any all "
    "divmod super Exception ValueError TypeError KeyError IndexError LookupError map iter next".split())
METHODS = set(
    "append clear copy count endswith extend find get index insert isalnum isalpha isdigit islower isspace isupper items "
    "join keys ljust lower lstrip partition pop remove replace reverse rfind rjust rpartition rsplit rstrip setdefault "
    "split splitlines startswith strip update upper values zfill bit_length add discard".split())
NEVER = set("mro elements open input law version_info with_traceback add_note register".split())
NEVER_VARIABLES = set(
    "attrgetter breakpoint builtins compile copyright credits delattr dir eval exec exit gc getattr globals hasattr help id "
    "importlib license locals methodcaller os quit setattr super type vars sys".split())
WORDS = set(
    "type typing typing_extensions enum Enum IntEnum StrEnum Flag IntFlag Generic Protocol ABC ABCMeta namedtuple "
    "NamedTuple TypedDict TYPE_CHECKING abstractmethod dataclass overload contextmanager".split())
ATTRIBUTES = set(
    "items keys values pop update append clear extend insert remove reverse setdefault sort args encode decode hex "
    "fromhex format format_map".split())
ONE_PASS = ("zip", "enumerate", "reversed", "range")
TAKES_PASS = ("list", "tuple", "dict", "sorted", "sum", "any", "all", "enumerate", "zip", "min", "max", "len")


class Check(ast.NodeVisitor):
    def __init__(self, path, text, tree, own_methods):
        self.path, self.text, self.tree = path, text, tree
        self.own_methods = own_methods
        self.found = []
        self.top = {}
        for node in tree.body:
            if isinstance(node, ast.ImportFrom):
                for name in node.names:
                    self.top[name.asname or name.name] = "import"
            if isinstance(node, ast.ClassDef):
                self.top[node.name] = "class"
        for node in ast.walk(tree):
            for child in ast.iter_child_nodes(node):
                child.parent = node

    def say(self, node, words):
        self.found.append(f"{self.path}:{getattr(node, 'lineno', 0)}: {words}")

    def check_lines(self):
        lines = self.text.split("\n")
        if len(lines) > 399:
            self.say(self.tree, f"L10: {len(lines)} lines")
        for number, line in enumerate(lines, 1):
            if len(line) > 120 or "\t" in line or any(not " " <= c <= "~" for c in line):
                self.found.append(f"{self.path}:{number}: L10/L14: line")

    def check_top(self):
        for node in self.tree.body:
            fine = isinstance(node, (ast.ImportFrom, ast.FunctionDef, ast.ClassDef))
            if isinstance(node, ast.Expr) and isinstance(node.value, ast.Constant):
                fine = True
            if isinstance(node, ast.Assign) and len(node.targets) == 1 and isinstance(node.targets[0], ast.Name):
                fine = all(isinstance(n, (ast.Constant, ast.Tuple, ast.List, ast.Dict, ast.Load, ast.UnaryOp, ast.USub))
                           for n in ast.walk(node.value))
            if not fine:
                self.say(node, "L3: module level")
        seen = {}
        for node in self.tree.body:
            names = []
            if isinstance(node, ast.ImportFrom):
                names = [name.asname or name.name for name in node.names]
            if isinstance(node, (ast.FunctionDef, ast.ClassDef)):
                names = [node.name]
            if isinstance(node, ast.Assign):
                names = [node.targets[0].id]
            for name in names:
                if name in seen:
                    self.say(node, f"L15: {name} is bound twice")
                seen[name] = True

    def visit_Import(self, node):
        self.say(node, "L2: import")

    def visit_ImportFrom(self, node):
        if (node.module, [name.name for name in node.names]) == ("math", ["gcd"]):
            return
        if not node.module or not node.module.startswith("closestfit.") or node.level:
            self.say(node, f"L2: from {node.module}")
        used = {n.id for n in ast.walk(self.tree) if isinstance(n, ast.Name)}
        for name in node.names:
            if name.asname or name.name not in used:
                self.say(node, f"import {name.name}: not used, or with as")

    def visit_FunctionDef(self, node):
        if node.end_lineno - node.lineno + 1 > 40:
            self.say(node, "L10: long function")
        if any(not (isinstance(d, ast.Name) and d.id in ("property", "staticmethod", "classmethod"))
               for d in node.decorator_list):
            self.say(node, "L4: decorator")
        self.check_name(node, node.name, not isinstance(node.parent, ast.ClassDef))
        arguments = node.args
        for argument in arguments.args + arguments.posonlyargs + arguments.kwonlyargs:
            self.check_name(argument, argument.arg, True)
            self.check_local(argument, argument.arg)
            if argument.annotation:
                self.say(node, "L21: annotation")
        calls = [n for n in ast.walk(node) if isinstance(n, ast.Call) and isinstance(n.func, ast.Name)
                 and n.func.id == node.name]
        if calls and not isinstance(node.parent, ast.ClassDef):
            self.say(node, "L11: recursion?")
        self.generic_visit(node)

    def check_name(self, node, name, variable):
        if name in NEVER or name in WORDS or name.startswith(("_wall", "_pe_", "_dcw_")):
            self.say(node, f"L17: {name}")
        if variable and (name in NEVER_VARIABLES or hasattr(builtins, name)):
            self.say(node, f"L15/L17: {name}")
        if name.startswith("__") and name not in ("__init__", "__eq__", "__repr__", "__str__", "__len__"):
            self.say(node, f"L5: {name}")

    def check_local(self, node, name):
        if name in self.top:
            self.say(node, f"L15: local {name} is an import or a class of the file")

    def visit_Name(self, node):
        if isinstance(node.ctx, ast.Store):
            self.check_name(node, node.id, True)
            self.check_local(node, node.id)
        elif hasattr(builtins, node.id) and node.id not in ALLOWED_BUILTINS:
            self.say(node, f"L8: {node.id}")
        elif node.id == "_":
            self.say(node, "L12: _ is read")

    def visit_Attribute(self, node):
        self.check_name(node, node.attr, False)
        if isinstance(node.ctx, ast.Store) and node.attr in ATTRIBUTES:
            self.say(node, f"L26: {node.attr}")
        self.generic_visit(node)

    def visit_Call(self, node):
        if isinstance(node.func, ast.Attribute):
            name = node.func.attr
            if name not in METHODS and name not in self.own_methods:
                self.say(node, f"L25: {name}")
            if name in ("keys", "values", "items"):
                self.check_pass(node)
        if isinstance(node.func, ast.Name) and node.func.id in ONE_PASS:
            self.check_pass(node)
        if isinstance(node.func, ast.Name) and node.func.id == "set":
            self.check_set(node)
        for argument in node.args:
            if isinstance(argument, ast.Starred) and not isinstance(argument.value, (ast.Name, ast.Attribute)):
                self.say(node, "L7: behind a star stands a name or an attribute")
        self.generic_visit(node)

    def check_pass(self, node):
        parent = node.parent
        if isinstance(parent, (ast.For, ast.comprehension)) and parent.iter is node:
            return
        if isinstance(parent, ast.Call) and isinstance(parent.func, ast.Name) and parent.func.id in TAKES_PASS:
            return
        if isinstance(node.func, ast.Name) and node.func.id == "range" and isinstance(parent, ast.Assign):
            return
        self.say(node, "L23: not iterated at once")

    def check_set(self, node):
        parent = node.parent
        fine = isinstance(parent, ast.Call) and isinstance(parent.func, ast.Name) and parent.func.id in ("sorted", "len")
        fine = fine or isinstance(parent, (ast.Assign, ast.Compare, ast.BinOp))
        if not fine:
            self.say(node, "L24: set")

    def visit_GeneratorExp(self, node):
        parent = node.parent
        names = ("list", "tuple", "dict", "sorted", "sum", "min", "max", "any", "all")
        if not (isinstance(parent, ast.Call) and isinstance(parent.func, ast.Name) and parent.func.id in names):
            self.say(node, "L7: generator expression")
        self.generic_visit(node)

    def visit_Constant(self, node):
        if isinstance(node.value, str) and "%" in node.value and not isinstance(node.parent, ast.Expr):
            self.say(node, "L27: a percent sign in a string")
        if isinstance(node.value, (float, complex)):
            self.say(node, "L7: float")

    def visit_Compare(self, node):
        for operator, right in zip(node.ops, node.comparators):
            if isinstance(operator, (ast.Is, ast.IsNot)):
                if not (isinstance(right, ast.Constant) and right.value in (None, True, False)):
                    self.say(node, "L20: is")
        self.generic_visit(node)

    def visit_BinOp(self, node):
        if isinstance(node.op, ast.Div):
            self.say(node, "L7: /")
        if isinstance(node.op, ast.Pow):
            self.say(node, "L27: **")
        self.generic_visit(node)

    def visit_Global(self, node):
        self.say(node, "L6: global")


def files_of(folder):
    return sorted(os.path.join(folder, name) for name in os.listdir(folder) if name != "__pycache__")


def main():
    folder = sys.argv[1]
    sources = {}
    for path in files_of(folder):
        if not path.endswith(".py"):
            print(f"{path}: L1: no .py file")
            sys.exit(1)
        with open(path, encoding="utf-8") as source:
            sources[path] = source.read()
    trees = {path: ast.parse(text) for path, text in sources.items()}
    own = {node.name for tree in trees.values() for top in tree.body if isinstance(top, ast.ClassDef)
           for node in top.body if isinstance(node, ast.FunctionDef)}
    found = []
    for path, text in sources.items():
        check = Check(path, text, trees[path], own)
        check.check_lines()
        check.check_top()
        check.visit(trees[path])
        found += check.found
    for line in found:
        print(line)
    sys.exit(1 if found else 0)


if __name__ == "__main__":
    main()
