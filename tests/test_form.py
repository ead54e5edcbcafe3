"""The package's own files keep to the small part of Python that they are written in."""

import ast
import builtins
import re
import unittest
from pathlib import Path

PACKAGE = Path(__file__).resolve().parent.parent / "signsmooth"

NODES = """Module ImportFrom alias FunctionDef arguments arg ClassDef Expr Assign AugAssign If While For Return Break
Continue Pass Raise Try ExceptHandler Constant List Tuple Dict Set BinOp Add Sub Mult FloorDiv Mod Pow BitAnd BitOr
BitXor LShift RShift Invert Compare Eq NotEq Lt LtE Gt GtE Is IsNot In NotIn BoolOp And Or UnaryOp Not USub UAdd IfExp
Call keyword Attribute Subscript Slice ListComp comprehension JoinedStr FormattedValue Lambda Name Load
Store""".split()

BUILT_IN = """len range enumerate zip min max sum abs sorted reversed int str bool list tuple dict set frozenset isinstance
ord repr any all divmod Exception ValueError TypeError KeyError IndexError LookupError ZeroDivisionError ArithmeticError
OverflowError RuntimeError NotImplementedError AttributeError StopIteration""".split()

METHODS_WITH_UNDERSCORES = ("__init__", "__eq__", "__repr__", "__str__", "__len__")

WORDS = re.compile(
    r"\b(type|typing|typing_extensions|enum|Enum|IntEnum|StrEnum|Flag|IntFlag|Generic|Protocol|ABC|ABCMeta|namedtuple"
    r"|NamedTuple|TypedDict|TYPE_CHECKING|abstractmethod)\b|dataclass|overload|contextmanager"
)


def faults_of_text(text):
    """The faults that a file's signs and rows show."""
    found = []
    rows = text.split("\n")
    if len(rows) > 401:
        found.append("a file of more than 400 lines")
    if re.search(r"[^ -~\n]", text):
        found.append("a sign beyond the blank to the tilde")
    for number, row in enumerate(rows, 1):
        if len(row) > 120:
            found.append(f"{number}: a line of more than 120 signs")
        if WORDS.search(row):
            found.append(f"{number}: a word that is not used")
    return found


def bound_names(tree):
    found = []
    for node in ast.walk(tree):
        if isinstance(node, (ast.FunctionDef, ast.ClassDef)):
            found.append(node.name)
        if isinstance(node, ast.Name) and isinstance(node.ctx, ast.Store):
            found.append(node.id)
        if isinstance(node, ast.arg):
            found.append(node.arg)
        if isinstance(node, ast.ImportFrom):
            found.extend(alias.asname or alias.name for alias in node.names)
    return found


def faults_of_node(node):
    """The faults that one part of a file shows by itself."""
    found = []
    if type(node).__name__ not in NODES:
        found.append(f"{type(node).__name__} is not used")
    if isinstance(node, ast.ImportFrom) and (node.level or not node.module.startswith("signsmooth.")):
        found.append("an import from elsewhere")
    if isinstance(node, ast.Constant) and not isinstance(node.value, (int, str, type(None))):
        found.append("a value of another kind")
    if isinstance(node, ast.FunctionDef):
        arguments = node.args
        if arguments.vararg or arguments.kwarg or arguments.kwonlyargs or arguments.posonlyargs:
            found.append("a parameter that is not plain")
        if node.end_lineno - node.lineno + 1 > 40:
            found.append("a function of more than 40 lines")
    if isinstance(node, (ast.FunctionDef, ast.ClassDef)) and node.decorator_list:
        found.append("a decorator")
    if isinstance(node, ast.ClassDef) and len(node.bases) > 1:
        found.append("more than one base")
    if isinstance(node, ast.Assign) and len(node.targets) != 1:
        found.append("more than one target")
    if isinstance(node, ast.ListComp) and (len(node.generators) > 1 or len(node.generators[0].ifs) > 1):
        found.append("a comprehension with more than one for or if")
    if isinstance(node, (ast.For, ast.While)) and node.orelse:
        found.append("an else behind a loop")
    if isinstance(node, ast.Try) and node.finalbody:
        found.append("a finally")
    return [f"{getattr(node, 'lineno', 0)}: {fault}" for fault in found]


def faults_of_names(tree):
    found = []
    bound = bound_names(tree)
    for name in bound:
        if name in METHODS_WITH_UNDERSCORES:
            continue
        if not re.fullmatch(r"[A-Za-z][A-Za-z0-9_]*", name) or hasattr(builtins, name):
            found.append(f"{name} is given a meaning")
    for node in ast.walk(tree):
        if isinstance(node, ast.Name) and node.id not in BUILT_IN and node.id not in bound:
            found.append(f"{node.lineno}: {node.id} is not used")
    return found


def faults_of(text):
    tree = ast.parse(text)
    found = faults_of_text(text) + faults_of_names(tree)
    for node in ast.walk(tree):
        found.extend(faults_of_node(node))
    return found


class TestForm(unittest.TestCase):
    def test_nothing_but_plain_files_lies_in_the_package(self):
        for path in PACKAGE.iterdir():
            if path.name != "__pycache__":
                self.assertRegex(path.name, r"^(__init__|[a-z][a-z0-9_]*)\.py$")
            if path.stem != "__init__":
                self.assertFalse(hasattr(builtins, path.stem) or path.stem.startswith("test"), path.name)
        self.assertTrue((PACKAGE / "__init__.py").is_file())

    def test_each_file_keeps_to_the_form(self):
        for path in sorted(PACKAGE.glob("*.py")):
            with self.subTest(path.name):
                self.assertEqual(faults_of(path.read_text(encoding="utf-8")), [])

    def test_faults_are_seen(self):
        wrong = (
            "import math\n", "from os import path\n", "x = 1.5\n", "x = 1 / 2\n", "x = y = 1\n", "x = {k for k in [1]}\n",
            "def f(*a):\n    return a\n", "def f(x):\n    assert x\n", "x = pow(2, 3)\n", "x = open\n", "x = b'a'\n",
            "def f(id):\n    return id\n", "# a type\n", "x = '\\u00e9'\n".encode().decode("unicode_escape"),
            "x = 1\t\n", "x = 1" + " " * 120 + "\n", "\n" * 401, "def _f():\n    pass\n", "x = [a for b in [] for a in b]\n",
            "def f():\n" + "    pass\n" * 40, "for k in []:\n    pass\nelse:\n    pass\n", "x, *y = [1]\n",
        )
        for text in wrong:
            self.assertNotEqual(faults_of(text), [], text)


if __name__ == "__main__":
    unittest.main()
