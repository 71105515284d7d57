"""The form of the package's files: most of what ../shared/LANGUAGE.md asks of a file by itself."""

import ast
import builtins
import pathlib
import re
import unittest

PACKAGE = pathlib.Path(__file__).resolve().parent.parent / "mothloom"

STATEMENTS = (
    ast.FunctionDef, ast.ClassDef, ast.ImportFrom, ast.Assign, ast.AugAssign, ast.If, ast.While, ast.For, ast.Return,
    ast.Break, ast.Continue, ast.Pass, ast.Raise, ast.Try, ast.Expr,
)
EXPRESSIONS = (
    ast.BoolOp, ast.BinOp, ast.UnaryOp, ast.Lambda, ast.IfExp, ast.Dict, ast.Set, ast.ListComp, ast.Compare, ast.Call,
    ast.JoinedStr, ast.FormattedValue, ast.Constant, ast.Attribute, ast.Subscript, ast.Name, ast.List, ast.Tuple,
    ast.Slice,
)
TOP = (ast.FunctionDef, ast.ClassDef, ast.ImportFrom, ast.Assign, ast.Expr)
OWN_NAMES = """len range enumerate zip min max sum abs sorted reversed int str bool list tuple dict set frozenset
    isinstance ord repr any all divmod Exception ValueError TypeError KeyError IndexError LookupError
    ZeroDivisionError ArithmeticError OverflowError RuntimeError NotImplementedError AttributeError
    StopIteration""".split()
OWN_METHODS = """append clear copy count endswith extend find get index insert isalnum isalpha isdigit islower isspace
    isupper items join keys ljust lower lstrip partition pop remove replace reverse rfind rjust rpartition rsplit rstrip
    setdefault split splitlines startswith strip update upper values zfill bit_length""".split()
OUT_WORDS = """type typing typing_extensions enum Enum IntEnum StrEnum Flag IntFlag Generic Protocol ABC ABCMeta
    namedtuple NamedTuple TypedDict TYPE_CHECKING abstractmethod""".split()
OUT_PARTS = ("dataclass", "overload", "contextmanager")
OUT_NAMES = """register mro elements open input version_info with_traceback add_note attrgetter breakpoint builtins
    compile copyright credits delattr dir eval exec exit gc getattr globals hasattr help id importlib license locals
    methodcaller os quit setattr super type vars sys chr print""".split()
UNDERSCORED = ("__init__", "__eq__", "__repr__", "__str__", "__len__")


def text_faults(text):
    faults = []
    if [sign for sign in text if sign != "\n" and not " " <= sign <= "~"]:
        faults.append("L14 sign")
    rows = text.split("\n")
    if len(rows) > 401 or [row for row in rows if len(row) > 120]:
        faults.append("L10 size")
    if set(re.findall(r"\w+", text)) & set(OUT_WORDS) or [part for part in OUT_PARTS if part in text]:
        faults.append("L17 word")
    return faults


def name_faults(name, bound):
    faults = []
    if name in OUT_NAMES or (name.startswith("_") and name not in UNDERSCORED):
        faults.append(f"L12, L17 name {name}")
    if name in dir(builtins) and (bound or name not in OWN_NAMES):
        faults.append(f"L8, L15 name {name}")
    return faults


def def_faults(node):
    faults = []
    if node.decorator_list or node.end_lineno - node.lineno >= 40:
        faults.append(f"L4, L10 {node.name}")
    signs = node.args
    if signs.vararg or signs.kwarg or signs.kwonlyargs or signs.posonlyargs:
        faults.append(f"L4 {node.name}")
    for parameter in signs.args:
        faults += name_faults(parameter.arg, True)
    return faults


def expression_faults(node):
    if isinstance(node, ast.Name):
        return name_faults(node.id, isinstance(node.ctx, ast.Store))
    if isinstance(node, ast.Constant) and not isinstance(node.value, (int, str, type(None))):
        return ["L7 value"]
    if isinstance(node, ast.BinOp) and isinstance(node.op, (ast.Div, ast.MatMult)):
        return ["L7 /"]
    if isinstance(node, ast.ListComp) and (len(node.generators) > 1 or len(node.generators[0].ifs) > 1):
        return ["L7 comprehension"]
    if isinstance(node, ast.Compare) and [op for op in node.ops if isinstance(op, (ast.Is, ast.IsNot))]:
        sides = [node.left] + node.comparators
        if not [side for side in sides if isinstance(side, ast.Constant)]:
            return ["L20 is"]
    return []


def statement_faults(node):
    if isinstance(node, ast.ImportFrom):
        aliases = [alias for alias in node.names if alias.name == "*"]
        own = node.level == 0 and (node.module or "").startswith("mothloom.")
        return [] if own and not aliases else ["L2, L16 import"]
    if isinstance(node, ast.FunctionDef):
        return name_faults(node.name, True) + def_faults(node)
    if isinstance(node, ast.ClassDef):
        plain = len(node.bases) <= 1 and not node.keywords and not node.decorator_list
        values = [part for part in node.body if not isinstance(part, (ast.FunctionDef, ast.Pass))]
        return name_faults(node.name, True) + ([] if plain and not values else ["L5 class"])
    if isinstance(node, ast.Assign) and len(node.targets) != 1:
        return ["L6 targets"]
    if isinstance(node, (ast.For, ast.While)) and node.orelse:
        return ["L6 else"]
    if isinstance(node, ast.Try) and node.finalbody:
        return ["L6 finally"]
    return []


def defs_of(text):
    return [node.name for node in ast.walk(ast.parse(text)) if isinstance(node, ast.FunctionDef)]


def faults_of(text, methods=()):
    """The rules that a file's text breaks, as far as they are seen here; the methods are the package's own."""
    faults = text_faults(text)
    tree = ast.parse(text)
    faults += ["L3 top" for node in tree.body if not isinstance(node, TOP)]
    for node in ast.walk(tree):
        if isinstance(node, ast.stmt):
            faults += statement_faults(node) if isinstance(node, STATEMENTS) else ["L6 statement"]
        if isinstance(node, ast.Expr) and node != tree.body[0] and not isinstance(node.value, ast.Call):
            faults.append("L6 value by itself")
        if isinstance(node, ast.expr):
            faults += expression_faults(node) if isinstance(node, EXPRESSIONS) else ["L7 expression"]
        if isinstance(node, ast.Call) and isinstance(node.func, ast.Attribute):
            if node.func.attr not in OWN_METHODS + list(methods) + ["add", "discard"]:
                faults.append(f"L25 method {node.func.attr}")
    return faults


def set_faults(tree):
    """Calls of set that stand elsewhere than L24 tells."""
    over = {}
    for node in ast.walk(tree):
        for child in ast.iter_child_nodes(node):
            over[child] = node
    faults = []
    for node in ast.walk(tree):
        if isinstance(node, ast.Call) and isinstance(node.func, ast.Name) and node.func.id == "set":
            place = over[node]
            while isinstance(place, ast.BinOp):
                place = over[place]
            called = isinstance(place, ast.Call) and isinstance(place.func, ast.Name)
            if not isinstance(place, ast.Compare) and not (called and place.func.id in ("sorted", "len")):
                faults.append("L24 set")
    return faults


def power_faults(tree):
    powers = [node for node in ast.walk(tree) if isinstance(node, ast.BinOp) and isinstance(node.op, ast.Pow)]
    return ["L27 power" for node in powers if not isinstance(node.right, ast.Constant)]


def bound_names(tree):
    """The parameters and locals of a file's defs."""
    names = set()
    for node in ast.walk(tree):
        if isinstance(node, ast.FunctionDef):
            names |= {parameter.arg for parameter in node.args.args}
            for part in ast.walk(node):
                if isinstance(part, ast.Name) and isinstance(part.ctx, ast.Store):
                    names.add(part.id)
    return names


def tops(tree):
    """The names that a file itself defines at its top."""
    names = {node.name for node in tree.body if isinstance(node, (ast.FunctionDef, ast.ClassDef))}
    for node in tree.body:
        if isinstance(node, ast.Assign):
            names |= {target.id for target in node.targets}
    return names


def drawn(tree):
    """The files that a file draws from, each with the names."""
    rows = [node for node in tree.body if isinstance(node, ast.ImportFrom)]
    return {row.module.partition(".")[2]: {alias.name for alias in row.names} for row in rows}


def reached(name, trees):
    """The files that a file draws from, in whatever many steps."""
    seen, waiting = set(), [name]
    while waiting:
        for other in drawn(trees[waiting.pop()]):
            if other not in seen:
                seen.add(other)
                waiting.append(other)
    return seen


def package_faults(trees):
    """The rules that files break together, as far as they are seen here."""
    faults = []
    methods, values = set(), set()
    for name, tree in trees.items():
        faults += set_faults(tree) + power_faults(tree)
        classes = {node.name for node in tree.body if isinstance(node, ast.ClassDef)}
        imported = set()
        for other, names in drawn(tree).items():
            imported |= names
            if other not in trees or names - tops(trees[other]):
                faults.append(f"L16 {name} draws from {other}")
        if not [fault for fault in faults if fault.startswith("L16")] and name in reached(name, trees):
            faults.append(f"L16 {name} draws from itself")
        if bound_names(tree) & (classes | imported):
            faults.append(f"L15 {name}")
        for node in ast.walk(tree):
            if isinstance(node, ast.ClassDef):
                methods |= {part.name for part in node.body if isinstance(part, ast.FunctionDef)}
            if isinstance(node, ast.Attribute) and isinstance(node.ctx, ast.Store):
                values.add(node.attr)
    return faults + [f"L18 {name}" for name in sorted(methods & values)]


class LanguageTest(unittest.TestCase):
    def files(self):
        return [path for path in sorted(PACKAGE.rglob("*")) if "__pycache__" not in path.parts]

    def test_only_plain_files_lie_in_the_package(self):
        names = [path.name for path in self.files()]
        self.assertIn("__init__.py", names)
        for path in self.files():
            self.assertTrue(path.is_file())
            self.assertRegex(path.name, r"^(__init__|[a-z][a-z0-9_]*)\.py$")

    def test_each_file_keeps_to_the_rules(self):
        texts = {path.name: path.read_bytes().decode("utf-8") for path in self.files()}
        methods = [name for text in texts.values() for name in defs_of(text)]
        for name, text in texts.items():
            with self.subTest(name):
                self.assertEqual(faults_of(text, methods), [])

    def test_the_files_together_keep_to_the_rules(self):
        self.assertEqual(package_faults({path.stem: ast.parse(path.read_text()) for path in self.files()}), [])

    def test_files_that_break_a_rule_together_are_seen(self):
        for files in (
            {"a": "from mothloom.b import f\n", "b": "from mothloom.a import g\n"},
            {"a": "from mothloom.b import f\ndef g():\n    pass\n", "b": "from mothloom.a import g\ndef f():\n    pass\n"},
            {"a": "from mothloom.b import f\ndef g(f):\n    pass\n", "b": "def f():\n    pass\n"},
            {"a": "from mothloom.b import f\ndef g():\n    f = 1\n", "b": "def f():\n    pass\n"},
            {"a": "from mothloom.b import f\n", "b": "from mothloom.c import f\n", "c": "f = 1\n"},
            {"a": "class A:\n    def f(self):\n        pass\n", "b": "class B:\n    def g(self):\n        self.f = 1\n"},
            {"a": "def f(x):\n    return set(x)\n"},
            {"a": "def f(x):\n    y = set(x) - set([1])\n    return len(y)\n"},
            {"a": "def f(x):\n    return 2 ** x\n"},
        ):
            with self.subTest(files=files):
                self.assertNotEqual(package_faults({name: ast.parse(text) for name, text in files.items()}), [])

    def test_files_that_break_a_rule_are_seen(self):
        for text in [
            "import time\n", "from random import random\n", "from . import rests\n", "a = open\n", "a = 1 / 2\n",
            "a = 1.5\n", "def f(*a):\n    return a\n", "a = [x for y in [] for x in y]\n", "a = {x: 1 for x in []}\n",
            "def f(x):\n    x.sort()\n", "def f(min):\n    return min\n", "a = 1  # type\n", "a = 1\t\n", "a = b = 1\n",
            "class A:\n    x = 1\n", "a = sum(x for x in [])\n", "_a = 1\n", "with a:\n    pass\n", "'a'\n'b'\n",
            "def f(x, y):\n    return x is y\n", "def f():\n    return f'{id}'\n", "for a in []:\n    pass\n",
        ]:
            with self.subTest(text=text):
                self.assertNotEqual(faults_of(text), [])


if __name__ == "__main__":
    unittest.main()
