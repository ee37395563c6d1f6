"""Holds the package's files against the rules of LANGUAGE.md that a walk over the code can see."""

import ast
import builtins
import pathlib
import re
import unittest

PACKAGE = pathlib.Path(__file__).resolve().parent.parent / "deskround"

OWN_NAMES = set("""
len range enumerate zip min max sum abs sorted reversed int str bool list tuple dict set frozenset isinstance
ord repr any all divmod Exception ValueError TypeError KeyError IndexError LookupError ZeroDivisionError
ArithmeticError OverflowError RuntimeError NotImplementedError AttributeError StopIteration
""".split())
OWN_METHODS = set("""
append clear copy count endswith extend find get index insert isalnum isalpha isdigit islower isspace isupper
items join keys ljust lower lstrip partition pop remove replace reverse rfind rjust rpartition rsplit rstrip
setdefault split splitlines startswith strip update upper values zfill bit_length
""".split())
NO_NAMES = set("""
register mro elements open input version_info with_traceback add_note attrgetter breakpoint builtins compile
copyright credits delattr dir eval exec exit gc getattr globals hasattr help id importlib license locals
methodcaller os quit setattr super vars sys chr
""".split())
NO_WORDS = re.compile(
    r"\b(type|typing|typing_extensions|enum|Enum|IntEnum|StrEnum|Flag|IntFlag|Generic|Protocol|ABC|ABCMeta"
    r"|namedtuple|NamedTuple|TypedDict|TYPE_CHECKING|abstractmethod)\b|dataclass|overload|contextmanager"
)
OWN_DUNDERS = ("__init__", "__eq__", "__repr__", "__str__", "__len__")
NODES = (
    ast.Module, ast.Expr, ast.FunctionDef, ast.arguments, ast.arg, ast.Lambda, ast.ClassDef, ast.Return, ast.Assign,
    ast.AugAssign, ast.For, ast.While, ast.If, ast.Break, ast.Continue, ast.Pass, ast.Raise, ast.Try,
    ast.ExceptHandler, ast.ImportFrom, ast.alias, ast.BoolOp, ast.BinOp, ast.UnaryOp, ast.IfExp, ast.Dict, ast.Set,
    ast.List, ast.Tuple, ast.ListComp, ast.comprehension, ast.Compare, ast.Call, ast.keyword, ast.JoinedStr,
    ast.FormattedValue, ast.Constant, ast.Attribute, ast.Subscript, ast.Name, ast.Slice, ast.expr_context,
    ast.operator, ast.unaryop, ast.boolop, ast.cmpop,
)


def defined(code):
    return {node.name for node in ast.walk(ast.parse(code)) if isinstance(node, ast.FunctionDef)}


def faults(code, methods):
    """The rules that the code of one file breaks, as far as they are seen here."""
    found = sign_faults(code)
    tree = ast.parse(code)
    for node in ast.walk(tree):
        if not isinstance(node, NODES):
            found.append(f"L6/L7 {type(node).__name__}")
        found.extend(statement_faults(node))
        found.extend(value_faults(node))
        found.extend(name_faults(node))
        if isinstance(node, ast.Call) and isinstance(node.func, ast.Attribute) and node.func.attr not in methods:
            found.append(f"L25 {node.func.attr}")
    return found + expression_faults(tree) + top_faults(tree) + local_faults(tree) + set_faults(tree)


def sign_faults(code):
    found = []
    if len(code.splitlines()) > 400 or any(len(row) > 120 for row in code.splitlines()):
        found.append("L10 a long file or line")
    if any(sign != "\n" and not " " <= sign <= "~" for sign in code):
        found.append("L14 a sign")
    if NO_WORDS.search(code):
        found.append("L17 a word")
    return found


def statement_faults(node):
    found = []
    if isinstance(node, ast.FunctionDef):
        if node.end_lineno - node.lineno >= 40:
            found.append("L10 a long function")
        if node.decorator_list:
            found.append("L4 a decorator")
    if isinstance(node, ast.arguments) and (node.vararg or node.kwarg or node.kwonlyargs or node.posonlyargs):
        found.append("L4 parameters")
    if isinstance(node, ast.ClassDef):
        if node.decorator_list or len(node.bases) > 1 or node.keywords:
            found.append("L5 a class")
        if not all(isinstance(part, (ast.FunctionDef, ast.Pass)) for part in node.body):
            found.append("L5 a class body")
    if isinstance(node, ast.Assign) and len(node.targets) != 1:
        found.append("L6 targets")
    if isinstance(node, (ast.For, ast.While)) and node.orelse:
        found.append("L6 else behind a loop")
    if isinstance(node, ast.Try) and node.finalbody:
        found.append("L6 finally")
    if isinstance(node, ast.ImportFrom) and (node.level or not (node.module or "").startswith("deskround.")):
        found.append("L2 an import")
    if isinstance(node, ast.ImportFrom) and any(alias.name == "*" for alias in node.names):
        found.append("L2 import *")
    return found


def value_faults(node):
    found = []
    if isinstance(node, ast.Constant) and not (node.value is None or isinstance(node.value, (int, str))):
        found.append("L7 a value")
    if isinstance(node, ast.Constant) and isinstance(node.value, str) and "%" in node.value:
        found.append("L27 a sign in a text")
    if isinstance(node, (ast.Div, ast.MatMult)):
        found.append("L7 an operator")
    if isinstance(node, ast.ListComp) and (len(node.generators) > 1 or len(node.generators[0].ifs) > 1):
        found.append("L7 a comprehension")
    if isinstance(node, ast.FormattedValue) and (not isinstance(node.value, ast.Name) or node.format_spec):
        found.append("L7 an f-string")
    if isinstance(node, ast.Compare) and any(isinstance(one, (ast.Is, ast.IsNot)) for one in node.ops):
        if not any(isinstance(one, ast.Constant) for one in [node.left] + node.comparators):
            found.append("L20 is")
    if isinstance(node, ast.BinOp) and isinstance(node.op, ast.Pow):
        if not isinstance(node.right, ast.Constant) or not 0 <= node.right.value <= 64:
            found.append("L27 an exponent")
    return found


def name_faults(node):
    found = []
    name = name_of(node)
    if name is None:
        return found
    if name.startswith("_") and name not in OWN_DUNDERS:
        found.append(f"L12 {name}")
    if name in NO_NAMES:
        found.append(f"L17 {name}")
    if isinstance(node, ast.Name) and isinstance(node.ctx, ast.Load):
        if name in dir(builtins) and name not in OWN_NAMES:
            found.append(f"L8 {name}")
    elif not isinstance(node, ast.Attribute) and name in dir(builtins):
        found.append(f"L15 {name}")
    return found


def name_of(node):
    if isinstance(node, ast.Name):
        return node.id
    if isinstance(node, ast.arg):
        return node.arg
    if isinstance(node, ast.Attribute):
        return node.attr
    if isinstance(node, (ast.FunctionDef, ast.ClassDef)):
        return node.name
    return None


def expression_faults(tree):
    docstring = tree.body[0] if ast.get_docstring(tree) is not None else None
    return [
        "L6 a value by itself" for node in ast.walk(tree)
        if isinstance(node, ast.Expr) and node is not docstring and not isinstance(node.value, ast.Call)
    ]


def top_faults(tree):
    found = []
    allowed = (ast.ImportFrom, ast.FunctionDef, ast.ClassDef, ast.Assign)
    rows = tree.body[1:] if ast.get_docstring(tree) is not None else tree.body
    if not all(isinstance(row, allowed) for row in rows):
        found.append("L3 the top of a file")
    names = [row.name for row in rows if isinstance(row, (ast.FunctionDef, ast.ClassDef))]
    names += [row.targets[0].id for row in rows if isinstance(row, ast.Assign)]
    names += [alias.asname or alias.name for row in rows if isinstance(row, ast.ImportFrom) for alias in row.names]
    if len(set(names)) != len(names):
        found.append("L15 a name bound twice")
    return found


def local_faults(tree):
    taken = {alias.asname or alias.name for row in imports(tree) for alias in row.names}
    taken |= {node.name for node in tree.body if isinstance(node, ast.ClassDef)}
    parameters = [node.arg for node in ast.walk(tree) if isinstance(node, ast.arg)]
    stored = [node.id for node in ast.walk(tree) if isinstance(node, ast.Name) and isinstance(node.ctx, ast.Store)]
    return [f"L15 {name}" for name in parameters + stored if name in taken]


def set_faults(tree):
    parents = {child: node for node in ast.walk(tree) for child in ast.iter_child_nodes(node)}
    found = []
    for node in ast.walk(tree):
        if isinstance(node, ast.Call) and isinstance(node.func, ast.Name) and node.func.id in ("set", "frozenset"):
            around = parents[node]
            while isinstance(around, ast.BinOp) and isinstance(around.op, (ast.Sub, ast.BitAnd, ast.BitOr, ast.BitXor)):
                around = parents[around]
            if not is_place_of_set(around):
                found.append("L24 a set")
    return found


def is_place_of_set(around):
    if isinstance(around, ast.Compare):
        return all(isinstance(one, (ast.In, ast.NotIn, ast.Eq, ast.NotEq)) for one in around.ops)
    if not isinstance(around, ast.Call) or not isinstance(around.func, ast.Name):
        return False
    return around.func.id in ("sorted", "len") and not around.keywords


def imports(tree):
    return [row for row in tree.body if isinstance(row, ast.ImportFrom)]


def import_faults(codes):
    """What is wrong between the files of a package, told as a dict from their names to their codes."""
    trees = {name: ast.parse(code) for name, code in codes.items()}
    tops = {name: top_names(tree) for name, tree in trees.items()}
    drawn = {name: {row.module.rpartition(".")[2] for row in imports(tree)} for name, tree in trees.items()}
    found = []
    for name, tree in trees.items():
        for row in imports(tree):
            own = tops.get(row.module.rpartition(".")[2], set())
            found.extend(f"L16 {name}: {alias.name}" for alias in row.names if alias.name not in own)
        reached = set()
        waiting = set(drawn[name])
        while waiting:
            one = waiting.pop()
            reached.add(one)
            waiting |= drawn.get(one, set()) - reached
        if name in reached:
            found.append(f"L16 a ring from {name}")
    return found


def top_names(tree):
    names = {row.name for row in tree.body if isinstance(row, (ast.FunctionDef, ast.ClassDef))}
    return names | {row.targets[0].id for row in tree.body if isinstance(row, ast.Assign)}


class FormTest(unittest.TestCase):
    def test_the_files_keep_the_rules(self):
        paths = sorted(PACKAGE.glob("*.py"))
        self.assertIn(PACKAGE / "__init__.py", paths)
        codes = [path.read_bytes().decode("utf-8") for path in paths]
        methods = OWN_METHODS.union(*[defined(code) for code in codes])
        for path, code in zip(paths, codes):
            with self.subTest(path=path.name):
                self.assertEqual(faults(code, methods), [])

    def test_the_files_draw_from_the_files_that_define(self):
        codes = {path.stem: path.read_text("utf-8") for path in PACKAGE.glob("*.py")}
        self.assertEqual(import_faults(codes), [])

    def test_breaches_between_files_are_seen(self):
        draws = "from deskround.{} import {}\n"
        made = "def one(a):\n    return a\n"
        self.assertEqual(import_faults({"a": made, "b": draws.format("a", "one")}), [])
        self.assertNotEqual(import_faults({"a": made, "b": draws.format("a", "two")}), [])
        self.assertNotEqual(import_faults({"a": made, "b": draws.format("c", "one")}), [])
        through = {"a": made, "b": draws.format("a", "one"), "c": draws.format("b", "one")}
        self.assertNotEqual(import_faults(through), [])
        ring = {name: made.replace("one", name) + draws.format(other, other) for name, other in ("ab", "bc", "ca")}
        self.assertNotEqual(import_faults(ring), [])

    def test_nothing_else_lies_in_the_package(self):
        for path in PACKAGE.iterdir():
            if path.name != "__pycache__":
                self.assertRegex(path.name, r"\A([a-z][a-z0-9_]*|__init__|__main__)\.py\Z")

    def test_breaches_are_seen(self):
        for code in (
            "import os\n", "from .errors import Ring\n", "from deskround.errors import *\n", "x = 1.5\n",
            "x = 1\nx = 2\n", "def f(*a):\n    pass\n", "def f(len):\n    pass\n", "def f(a):\n    return a / 2\n",
            "def f(a):\n    return {b for b in a}\n", "def f(a):\n    return any(b for b in a)\n",
            "def f(a):\n    a.sort()\n", "def f(a, b):\n    return a is b\n", "def f(a):\n    return 2 ** a\n",
            "def f(a):\n    'words'\n    return a\n", "def f(a):\n    return a + '%'\n", "# of that type\n",
            "# \u00e9\n", "def f(a):\n\treturn a\n", "def f(a):\n    a = b = 1\n", "class A:\n    x = 1\n",
            "def f(a):\n    global b\n", "def f(a):\n    return map(a)\n", "def hidden():\n    _a = 1\n",
            "print(1)\n", "def f(a):\n" + "    a = 1\n" * 40, "# " + "a" * 119 + "\n",
            "from deskround.ties import keeps\n\n\ndef f(keeps):\n    return keeps\n",
            "from deskround.ties import keeps\n\n\ndef f(a):\n    keeps = a\n    return keeps\n",
            "def f(a):\n    return list(set(a))\n", "def f(a):\n    b = set(a)\n    return len(b)\n",
            "def f(a):\n    return sorted(set(a), key=len)\n", "def f(a):\n    return [b for b in set(a)]\n",
        ):
            with self.subTest(code=code):
                self.assertNotEqual(faults(code, OWN_METHODS), [])


if __name__ == "__main__":
    unittest.main()
