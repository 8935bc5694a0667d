"""Holds the package's files to the rules of LANGUAGE.md that can be seen in a file's tree.

It is no whole check of L1 to L28: what it does not see is still asked for.
"""

import ast
import builtins
import re
import unittest
from pathlib import Path

PACKAGE = Path(__file__).resolve().parent.parent / "rowbreadth"

OWN_NAMES = set(
    "len range enumerate zip min max sum abs sorted reversed int str bool list tuple dict set frozenset isinstance ord"
    " repr any all divmod Exception ValueError TypeError KeyError IndexError LookupError ZeroDivisionError"
    " ArithmeticError OverflowError RuntimeError NotImplementedError AttributeError StopIteration".split())
OWN_METHODS = set(
    "append clear copy count endswith extend find get index insert isalnum isalpha isdigit islower isspace isupper"
    " items join keys ljust lower lstrip partition pop remove replace reverse rfind rjust rpartition rsplit rstrip"
    " setdefault split splitlines startswith strip update upper values zfill bit_length".split())
DUNDERS = {"__init__", "__eq__", "__repr__", "__str__", "__len__"}
NEVER_WORDS = re.compile(
    r"\b(type|typing|typing_extensions|enum|Enum|IntEnum|StrEnum|Flag|IntFlag|Generic|Protocol|ABC|ABCMeta"
    r"|namedtuple|NamedTuple|TypedDict|TYPE_CHECKING|abstractmethod)\b|dataclass|overload|contextmanager")
NEVER_NAMES = {"register", "mro", "elements", "open", "input", "version_info", "with_traceback", "add_note", "format",
               "format_map"}
PLAIN_NAME = re.compile(r"[A-Za-z][A-Za-z0-9_]*\Z")
STATEMENTS = (ast.Assign, ast.AugAssign, ast.If, ast.While, ast.For, ast.Return, ast.Break, ast.Continue, ast.Pass,
              ast.Raise, ast.Try, ast.Expr, ast.FunctionDef)
NEVER_NODES = (ast.SetComp, ast.DictComp, ast.GeneratorExp, ast.NamedExpr, ast.Starred, ast.Await, ast.Yield,
               ast.YieldFrom, ast.Div, ast.MatMult, ast.AnnAssign)


def top_faults(tree):
    names = []
    for at, node in enumerate(tree.body):
        if isinstance(node, ast.Expr):
            if at != 0 or not isinstance(node.value, ast.Constant):
                yield node.lineno, "L3 a call at the top"
        elif isinstance(node, ast.ImportFrom):
            if node.level or node.module.split(".")[0] != PACKAGE.name or any(n.name == "*" for n in node.names):
                yield node.lineno, "L2 import"
            names.extend(n.asname or n.name for n in node.names)
        elif isinstance(node, ast.Assign):
            if any(isinstance(part, (ast.BinOp, ast.Call, ast.Attribute)) for part in ast.walk(node.value)):
                yield node.lineno, "L3 no plain value"
            names.extend(target.id for target in node.targets)
        elif isinstance(node, (ast.FunctionDef, ast.ClassDef)):
            names.append(node.name)
        else:
            yield node.lineno, "L3 at the top"
    for name in names:
        if names.count(name) > 1:
            yield 1, f"L15 {name} is bound twice"


def class_faults(node):
    if node.decorator_list or node.keywords or len(node.bases) > 1:
        yield node.lineno, "L5 class"
    for part in node.body:
        if isinstance(part, ast.FunctionDef):
            if part.name.startswith("__") and part.name not in DUNDERS:
                yield part.lineno, "L5 method"
        elif not isinstance(part, ast.Pass):
            yield part.lineno, "L5 class body"


def def_faults(node):
    given = node.args
    if node.decorator_list or given.vararg or given.kwarg or given.kwonlyargs or given.posonlyargs:
        yield node.lineno, "L4 function"
    if node.end_lineno - node.lineno + 1 > 40:
        yield node.lineno, "L10 function of more than 40 lines"
    for part in node.body:
        if isinstance(part, ast.Expr) and isinstance(part.value, ast.Constant):
            yield part.lineno, "L6 a value by itself"


def taken_names(tree):
    names = set(dir(builtins))
    for node in tree.body:
        if isinstance(node, ast.ImportFrom):
            names.update(n.asname or n.name for n in node.names)
        if isinstance(node, ast.ClassDef):
            names.add(node.name)
    return names


def name_faults(tree):
    taken = taken_names(tree)
    bound = set()
    for node in ast.walk(tree):
        if isinstance(node, ast.arg):
            bound.add((node.arg, node.lineno))
        if isinstance(node, ast.Name) and isinstance(node.ctx, ast.Store):
            bound.add((node.id, node.lineno))
        if isinstance(node, ast.Name):
            if node.id in dir(builtins) and node.id not in OWN_NAMES:
                yield node.lineno, f"L8 {node.id}"
            if not PLAIN_NAME.match(node.id) or node.id in NEVER_NAMES:
                yield node.lineno, f"L12 or L17 {node.id}"
        if isinstance(node, ast.Attribute):
            if node.attr not in DUNDERS and (not PLAIN_NAME.match(node.attr) or node.attr in NEVER_NAMES):
                yield node.lineno, f"L12 or L17 .{node.attr}"
    for name, line in bound:
        if name in taken or not PLAIN_NAME.match(name):
            yield line, f"L15 {name}"


def node_faults(node):
    if isinstance(node, NEVER_NODES):
        yield getattr(node, "lineno", 1), f"L6 or L7 {type(node).__name__}"
    if isinstance(node, ast.stmt) and not isinstance(node, STATEMENTS + (ast.ImportFrom, ast.ClassDef)):
        yield node.lineno, f"L6 {type(node).__name__}"
    if isinstance(node, (ast.For, ast.While)) and node.orelse:
        yield node.lineno, "L6 else behind a loop"
    if isinstance(node, ast.Assign) and len(node.targets) > 1:
        yield node.lineno, "L6 more than one target"
    if isinstance(node, ast.Try) and node.finalbody:
        yield node.lineno, "L6 finally"
    if isinstance(node, ast.ListComp) and (len(node.generators) > 1 or len(node.generators[0].ifs) > 1):
        yield node.lineno, "L7 comprehension"
    if isinstance(node, ast.Constant) and isinstance(node.value, (float, bytes, complex)):
        yield node.lineno, "L7 value"
    if isinstance(node, ast.Constant) and isinstance(node.value, str) and "%" in node.value:
        yield node.lineno, "L27 percent sign in a text"
    if isinstance(node, ast.Compare) and any(isinstance(op, (ast.Is, ast.IsNot)) for op in node.ops):
        sides = [node.left] + node.comparators
        if not any(isinstance(side, ast.Constant) and side.value in (None, True, False) for side in sides):
            yield node.lineno, "L20 is"


def text_faults(text):
    lines = text.split("\n")
    if len(lines) > 401:
        yield 1, "L10 file of more than 400 lines"
    for at, line in enumerate(lines, start=1):
        if len(line) > 120 or not all(" " <= sign <= "~" for sign in line):
            yield at, "L10 or L14 line"
        if NEVER_WORDS.search(line):
            yield at, "L17 word"


def file_faults(text):
    tree = ast.parse(text)
    faults = list(text_faults(text)) + list(top_faults(tree)) + list(name_faults(tree))
    for node in ast.walk(tree):
        faults.extend(node_faults(node))
        if isinstance(node, ast.ClassDef):
            faults.extend(class_faults(node))
        if isinstance(node, ast.FunctionDef):
            faults.extend(def_faults(node))
    return faults


def drawn_from(tree):
    return [node.module.split(".")[-1] for node in tree.body if isinstance(node, ast.ImportFrom)]


def methods_and_values(trees):
    methods, values = set(), set()
    for tree in trees:
        for owner in [node for node in ast.walk(tree) if isinstance(node, ast.ClassDef)]:
            methods.update(part.name for part in owner.body if isinstance(part, ast.FunctionDef))
            values.update(part.attr for part in ast.walk(owner)
                          if isinstance(part, ast.Attribute) and isinstance(part.ctx, ast.Store))
    return methods, values


class ThePackage(unittest.TestCase):
    def setUp(self):
        self.files = sorted(path for path in PACKAGE.iterdir() if path.name != "__pycache__")
        self.texts = {path.stem: path.read_text(encoding="ascii") for path in self.files}
        self.trees = {stem: ast.parse(text) for stem, text in self.texts.items()}

    def test_files(self):
        for path in self.files:
            self.assertRegex(path.name, r"\A(__init__|__main__|[a-z][a-z0-9_]*)\.py\Z")
        self.assertIn("__init__", self.texts)

    def test_each_file_keeps_to_the_rules(self):
        for stem, text in self.texts.items():
            with self.subTest(file=stem):
                self.assertEqual(file_faults(text), [])

    def test_no_two_files_draw_from_one_another(self):
        left = {stem: drawn_from(tree) for stem, tree in self.trees.items()}
        while left:
            done = [stem for stem, drawn in left.items() if not any(other in left for other in drawn)]
            self.assertTrue(done, f"drawn in a ring: {sorted(left)}")
            for stem in done:
                del left[stem]

    def test_no_name_is_a_method_here_and_a_value_there(self):
        methods, values = methods_and_values(self.trees.values())
        self.assertEqual(methods & values, set())

    def test_methods_called_are_of_the_list_or_the_programs_own(self):
        methods, _ = methods_and_values(self.trees.values())
        for stem, tree in self.trees.items():
            for node in ast.walk(tree):
                if isinstance(node, ast.Call) and isinstance(node.func, ast.Attribute):
                    self.assertIn(node.func.attr, OWN_METHODS | methods | DUNDERS, f"{stem}:{node.lineno}")


class TheCheckItself(unittest.TestCase):
    def test_code_outside_the_rules_is_seen(self):
        for text in (
            "import sys\n", "HALF = 2 ** 63\n", "print(1)\n", "x = 1\nx = 2\n", "def f(*a):\n    return a\n",
            "class A:\n    x = 1\n", "def f(x):\n    return x / 2\n", "def f(x):\n    return x is x\n",
            "def f(x):\n    y = z = x\n    return y\n", "def f(len):\n    return len\n", "# a type\n",
            "def f():\n" + "    f()\n" * 40, "def f(x):\n    return type(x)\n", "def f(_x):\n    return 1\n",
            "def f(x):\n    with x:\n        pass\n", "def f(x):\n    assert x\n", "def f():\n    return 1.5\n",
            "def f():\n    return '%'\n", "x = 1\n" + "\n" * 400, "def f():\n    'words'\n    return 1\n",
        ):
            with self.subTest(text=text):
                self.assertNotEqual(file_faults(text), [])

    def test_code_within_the_rules_is_let_by(self):
        text = ('"""Words."""\n\nfrom rowbreadth.errors import RowError\n\nFEW = {"a": 1}\n\n\n'
                'class Own(RowError):\n    def __init__(self, line):\n        RowError.__init__(self, f"at {line}")\n'
                '        self.line = line\n\n\ndef told(xs):\n    return [x // 2 for x in xs if x is not None]\n')
        self.assertEqual(file_faults(text), [])


if __name__ == "__main__":
    unittest.main()
