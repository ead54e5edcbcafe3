"""The package's own files keep to the small part of Python that they are written in."""

import ast
import builtins
import re
import unittest
from pathlib import Path

PACKAGE = Path(__file__).resolve().parent.parent / "signsmooth"

NODES = """Module ImportFrom alias FunctionDef arguments arg ClassDef Expr Assign AugAssign If While For Return Break
Continue Pass Raise Try ExceptHandler Constant List Tuple Dict Set BinOp Add Sub Mult FloorDiv Mod Pow BitAnd BitOr
BitXor LShift RShift Invert Compare Eq NotEq Lt LtE Gt GtE Is IsNot In NotIn BoolOp And Or UnaryOp Not USub UAdd IfExp
Call keyword Attribute Subscript Slice ListComp comprehension JoinedStr FormattedValue Lambda Name Load
Store""".split()

BUILT_IN = """len range enumerate zip min max sum abs sorted reversed int str bool list tuple dict set frozenset isinstance
ord repr any all divmod Exception ValueError TypeError KeyError IndexError LookupError ZeroDivisionError ArithmeticError
OverflowError RuntimeError NotImplementedError AttributeError StopIteration""".split()

METHODS = """append clear copy count endswith extend find get index insert isalnum isalpha isdigit islower isspace isupper
items join keys ljust lower lstrip partition pop remove replace reverse rfind rjust rpartition rsplit rstrip setdefault
split splitlines startswith strip update upper values zfill bit_length""".split()

WALKED_AT_ONCE = ("zip", "enumerate", "reversed", "range")
WALKERS = ("list", "tuple", "dict", "sorted", "sum", "any", "all", "enumerate", "zip", "min", "max")

METHODS_WITH_UNDERSCORES = ("__init__", "__eq__", "__repr__", "__str__", "__len__")

WORDS = re.compile(
    r"\b(type|typing|typing_extensions|enum|Enum|IntEnum|StrEnum|Flag|IntFlag|Generic|Protocol|ABC|ABCMeta|namedtuple"
    r"|NamedTuple|TypedDict|TYPE_CHECKING|abstractmethod)\b|dataclass|overload|contextmanager"
)


def faults_of_text(text):
    """The faults that a file's signs and rows show."""
    found = []
    rows = text.split("\n")
    if len(rows) > 401:
        found.append("a file of more than 400 lines")
    if re.search(r"[^ -~\n]", text):
        found.append("a sign beyond the blank to the tilde")
    for number, row in enumerate(rows, 1):
        if len(row) > 120:
            found.append(f"{number}: a line of more than 120 signs")
        if WORDS.search(row):
            found.append(f"{number}: a word that is not used")
    return found


def bound_names(tree):
    found = []
    for node in ast.walk(tree):
        if isinstance(node, (ast.FunctionDef, ast.ClassDef)):
            found.append(node.name)
        if isinstance(node, ast.Name) and isinstance(node.ctx, ast.Store):
            found.append(node.id)
        if isinstance(node, ast.arg):
            found.append(node.arg)
        if isinstance(node, ast.ImportFrom):
            found.extend(alias.asname or alias.name for alias in node.names)
    return found


def faults_of_node(node):
    """The faults that one part of a file shows by itself."""
    found = []
    if type(node).__name__ not in NODES:
        found.append(f"{type(node).__name__} is not used")
    if isinstance(node, ast.ImportFrom) and (node.level or not node.module.startswith("signsmooth.")):
        found.append("an import from elsewhere")
    if isinstance(node, ast.Constant) and not isinstance(node.value, (int, str, type(None))):
        found.append("a value of another kind")
    if isinstance(node, ast.FunctionDef):
        arguments = node.args
        if arguments.vararg or arguments.kwarg or arguments.kwonlyargs or arguments.posonlyargs:
            found.append("a parameter that is not plain")
        if node.end_lineno - node.lineno + 1 > 40:
            found.append("a function of more than 40 lines")
    if isinstance(node, (ast.FunctionDef, ast.ClassDef)) and node.decorator_list:
        found.append("a decorator")
    if isinstance(node, ast.ClassDef) and len(node.bases) > 1:
        found.append("more than one base")
    if isinstance(node, ast.Assign) and len(node.targets) != 1:
        found.append("more than one target")
    if isinstance(node, ast.ListComp) and (len(node.generators) > 1 or len(node.generators[0].ifs) > 1):
        found.append("a comprehension with more than one for or if")
    if isinstance(node, (ast.For, ast.While)) and node.orelse:
        found.append("an else behind a loop")
    if isinstance(node, ast.Try) and node.finalbody:
        found.append("a finally")
    if isinstance(node, ast.FormattedValue) and not isinstance(node.value, ast.Name):
        found.append("more than a name in an f-string")
    if isinstance(node, ast.Compare) and any(isinstance(one, (ast.Is, ast.IsNot)) for one in node.ops):
        if not isinstance(node.comparators[0], ast.Constant):
            found.append("is beside another thing than None, True and False")
    if isinstance(node, ast.BinOp) and isinstance(node.op, ast.Pow) and not isinstance(node.right, ast.Constant):
        found.append("a power that is not written")
    return [f"{getattr(node, 'lineno', 0)}: {fault}" for fault in found]


def faults_of_names(tree):
    found = []
    bound = bound_names(tree)
    for name in bound:
        if name in METHODS_WITH_UNDERSCORES:
            continue
        if not re.fullmatch(r"[A-Za-z][A-Za-z0-9_]*", name) or hasattr(builtins, name):
            found.append(f"{name} is given a meaning")
    for node in ast.walk(tree):
        if isinstance(node, ast.Name) and node.id not in BUILT_IN and node.id not in bound:
            found.append(f"{node.lineno}: {node.id} is not used")
    return found


def own_attributes(tree):
    """The methods of the file's classes, and the values that are given to their objects."""
    found = []
    for node in ast.walk(tree):
        if isinstance(node, ast.ClassDef):
            found.extend(part.name for part in node.body if isinstance(part, ast.FunctionDef))
        if isinstance(node, ast.Attribute) and isinstance(node.ctx, ast.Store):
            found.append(node.attr)
    return found


def faults_of_attributes(tree, own):
    return [f"{node.lineno}: .{node.attr} is not used" for node in ast.walk(tree)
            if isinstance(node, ast.Attribute) and node.attr not in METHODS and node.attr not in own]


def faults_of_locals(tree):
    """Parameters and locals that are called like a class or an import of the file."""
    taken = [alias.name for node in tree.body if isinstance(node, ast.ImportFrom) for alias in node.names]
    taken += [node.name for node in tree.body if isinstance(node, ast.ClassDef)]
    found = []
    for node in ast.walk(tree):
        name = node.arg if isinstance(node, ast.arg) else node.id if isinstance(node, ast.Name) else None
        if name in taken and (isinstance(node, ast.arg) or isinstance(node.ctx, ast.Store)):
            found.append(f"{node.lineno}: {name} is an import or a class")
    return found


def faults_of_walks(tree):
    """What is to be walked on the spot, and is kept or handed on."""
    at_once = []
    for node in ast.walk(tree):
        if isinstance(node, (ast.For, ast.comprehension)):
            at_once.append(node.iter)
        if isinstance(node, ast.Call) and isinstance(node.func, ast.Name) and node.func.id in WALKERS:
            at_once.extend(node.args)
    return [f"{node.lineno}: {node.func.id} is not walked on the spot" for node in ast.walk(tree)
            if isinstance(node, ast.Call) and isinstance(node.func, ast.Name) and node.func.id in WALKED_AT_ONCE
            and node not in at_once]


def faults_of_imports(tree, home):
    """Names that are drawn from a file that does not define them."""
    found = []
    for node in tree.body:
        if isinstance(node, ast.ImportFrom):
            path = home / f"{node.module.partition('.')[2]}.py"
            defined = [part.name for part in ast.parse(path.read_text(encoding="utf-8")).body
                       if isinstance(part, (ast.FunctionDef, ast.ClassDef))]
            defined += [part.targets[0].id for part in ast.parse(path.read_text(encoding="utf-8")).body
                        if isinstance(part, ast.Assign)]
            found.extend(f"{alias.name} is not defined there" for alias in node.names if alias.name not in defined)
    used = [node.id for node in ast.walk(tree) if isinstance(node, ast.Name)]
    for node in tree.body:
        if isinstance(node, ast.ImportFrom):
            found.extend(f"{alias.name} is drawn in for nothing" for alias in node.names if alias.name not in used)
    return found


def faults_of(text, own=()):
    tree = ast.parse(text)
    found = faults_of_text(text) + faults_of_names(tree)
    found += faults_of_attributes(tree, list(own) + own_attributes(tree)) + faults_of_locals(tree) + faults_of_walks(tree)
    for node in ast.walk(tree):
        found.extend(faults_of_node(node))
    return found


class TestForm(unittest.TestCase):
    def test_nothing_but_plain_files_lies_in_the_package(self):
        for path in PACKAGE.iterdir():
            if path.name != "__pycache__":
                self.assertRegex(path.name, r"^(__init__|[a-z][a-z0-9_]*)\.py$")
            if path.stem != "__init__":
                self.assertFalse(hasattr(builtins, path.stem) or path.stem.startswith("test"), path.name)
        self.assertTrue((PACKAGE / "__init__.py").is_file())

    def test_each_file_keeps_to_the_form(self):
        texts = {path.name: path.read_text(encoding="utf-8") for path in sorted(PACKAGE.glob("*.py"))}
        own = [name for text in texts.values() for name in own_attributes(ast.parse(text))]
        for name, text in texts.items():
            with self.subTest(name):
                self.assertEqual(faults_of(text, own), [])
                self.assertEqual(faults_of_imports(ast.parse(text), PACKAGE), [])

    def test_no_two_files_draw_from_one_another(self):
        drawn = {}
        for path in PACKAGE.glob("*.py"):
            body = ast.parse(path.read_text(encoding="utf-8")).body
            drawn[path.stem] = [part.module.partition(".")[2] for part in body if isinstance(part, ast.ImportFrom)]
        done = []
        while len(done) < len(drawn):
            free = [name for name in drawn if name not in done and all(one in done for one in drawn[name])]
            self.assertNotEqual(free, [])
            done.extend(free)

    def test_faults_are_seen(self):
        wrong = (
            "import math\n", "from os import path\n", "x = 1.5\n", "x = 1 / 2\n", "x = y = 1\n", "x = {k for k in [1]}\n",
            "def f(*a):\n    return a\n", "def f(x):\n    assert x\n", "x = pow(2, 3)\n", "x = open\n", "x = b'a'\n",
            "def f(id):\n    return id\n", "# a type\n", "x = '\\u00e9'\n".encode().decode("unicode_escape"),
            "x = 1\t\n", "x = 1" + " " * 120 + "\n", "\n" * 401, "def _f():\n    pass\n", "x = [a for b in [] for a in b]\n",
            "def f():\n" + "    pass\n" * 40, "for k in []:\n    pass\nelse:\n    pass\n", "x, *y = [1]\n",
            "def f(x):\n    return x.sort()\n", "def f(x):\n    return f'{x[0]}'\n", "def f(x):\n    return 2 ** x\n",
            "def f(x):\n    return x is f\n", "def f(x):\n    return f(range(x))\n", "def f(x):\n    y = zip(x)\n",
            "from signsmooth.errors import NoRow\n\n\ndef f(NoRow):\n    return NoRow\n",
        )
        for text in wrong:
            self.assertNotEqual(faults_of(text), [], text)


if __name__ == "__main__":
    unittest.main()
