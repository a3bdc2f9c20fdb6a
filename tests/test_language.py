"""The package's files are held against a part of ../shared/LANGUAGE.md.

Looked at: file names, imports, forms, names, methods, sizes and signs. Not looked at, among others: what is kept at a
file's top (L15), errors (L19), what is walked and changed (L23), sets (L24) and methods with two underscores (L28).
"""

import ast
import builtins
import pathlib
import re
import unittest

PACKAGE = pathlib.Path(__file__).resolve().parent.parent / "readgrove"
FILES = sorted(PACKAGE.rglob("*.py"))

# L8
OWN_NAMES = set(
    "len range enumerate zip min max sum abs sorted reversed int str bool list tuple dict set frozenset isinstance ord "
    "repr any all divmod Exception ValueError TypeError KeyError IndexError LookupError ZeroDivisionError "
    "ArithmeticError OverflowError RuntimeError NotImplementedError AttributeError StopIteration".split()
)
# L25, and what L26 frees for own methods
METHODS = set(
    "append clear copy count endswith extend find get index insert isalnum isalpha isdigit islower isspace isupper "
    "items join keys ljust lower lstrip partition pop remove replace reverse rfind rjust rpartition rsplit rstrip "
    "setdefault split splitlines startswith strip update upper values zfill bit_length".split()
)
PYTHONS_METHODS = {name for kind in (str, int, list, tuple, dict, set, bytes) for name in dir(kind)}
# L17
UNSAID = set(
    "type typing typing_extensions enum Enum IntEnum StrEnum Flag IntFlag Generic Protocol ABC ABCMeta namedtuple "
    "NamedTuple TypedDict TYPE_CHECKING abstractmethod".split()
)
UNUSED = set("register mro elements open input version_info with_traceback add_note format format_map".split())
# L6 and L7
NODES = (
    ast.Module, ast.ImportFrom, ast.alias, ast.FunctionDef, ast.arguments, ast.arg, ast.ClassDef, ast.Assign,
    ast.AugAssign, ast.If, ast.While, ast.For, ast.Return, ast.Break, ast.Continue, ast.Pass, ast.Raise, ast.Try,
    ast.ExceptHandler, ast.Expr, ast.Constant, ast.List, ast.Tuple, ast.Dict, ast.Set, ast.BinOp, ast.UnaryOp,
    ast.BoolOp, ast.Compare, ast.IfExp, ast.Call, ast.keyword, ast.Attribute, ast.Subscript, ast.Slice, ast.ListComp,
    ast.comprehension, ast.JoinedStr, ast.FormattedValue, ast.Name, ast.Lambda, ast.expr_context, ast.operator,
    ast.unaryop, ast.boolop, ast.cmpop,
)
BARRED = (ast.Div, ast.MatMult)


def node_faults(node):
    if not isinstance(node, NODES) or isinstance(node, BARRED):
        return ["no such form"]
    if isinstance(node, ast.Name):
        return name_faults(node)
    if isinstance(node, ast.Attribute):
        barred = node.attr in UNUSED or (node.attr in PYTHONS_METHODS and node.attr not in METHODS)
        return ["no such method"] if barred else []
    if isinstance(node, (ast.FunctionDef, ast.Lambda)):
        return def_faults(node)
    if isinstance(node, ast.ClassDef):
        return ["class"] if node.decorator_list or node.keywords or len(node.bases) > 1 else []
    if isinstance(node, ast.ImportFrom):
        return [] if node.level == 0 and node.module.startswith("readgrove.") else ["import"]
    if isinstance(node, ast.Assign):
        return ["targets"] if len(node.targets) > 1 else []
    if isinstance(node, (ast.For, ast.While)):
        return ["else behind a loop"] if node.orelse else []
    if isinstance(node, ast.Try):
        return ["finally"] if node.finalbody else []
    if isinstance(node, ast.ListComp):
        return ["comprehension"] if len(node.generators) > 1 or len(node.generators[0].ifs) > 1 else []
    if isinstance(node, ast.Constant):
        return ["value"] if not isinstance(node.value, (int, str, type(None))) else []
    return []


def name_faults(node):
    if node.id.startswith("_") or not re.fullmatch("[A-Za-z0-9_]+", node.id):
        return ["name"]
    stored = isinstance(node.ctx, ast.Store)
    if hasattr(builtins, node.id) and (stored or node.id not in OWN_NAMES):
        return ["a name of Python's own"]
    return []


def def_faults(node):
    faults = []
    args = node.args
    if args.vararg or args.kwarg or args.kwonlyargs or args.posonlyargs:
        faults.append("parameters")
    faults += ["parameter " + arg.arg for arg in args.args if hasattr(builtins, arg.arg) or arg.arg.startswith("_")]
    if isinstance(node, ast.FunctionDef):
        if node.decorator_list:
            faults.append("decorator")
        if node.end_lineno - node.lineno >= 40:
            faults.append("more than 40 lines")
    return faults


def text_faults(text):
    rows = text.split("\n")
    faults = ["a sign"] if re.search("[^ -~\n]", text) else []
    faults += ["more than 400 rows"] if len(rows) > 401 else []
    faults += ["a row of more than 120 signs"] if max(map(len, rows)) > 120 else []
    faults += ["the word " + word for word in re.findall("[A-Za-z_0-9]+", text) if word in UNSAID]
    return faults


def top_faults(tree):
    allowed = (ast.ImportFrom, ast.FunctionDef, ast.ClassDef, ast.Assign)
    rest = tree.body[1:] if ast.get_docstring(tree) is not None else tree.body
    return [f"row {node.lineno}: not for a file's top" for node in rest if not isinstance(node, allowed)]


def faults_of(text):
    tree = ast.parse(text)
    faults = text_faults(text) + top_faults(tree)
    for node in ast.walk(tree):
        faults += [f"row {getattr(node, 'lineno', 0)}: {fault}" for fault in node_faults(node)]
    return faults


class Language(unittest.TestCase):
    def test_files(self):
        self.assertTrue((PACKAGE / "__init__.py").is_file())
        for path in PACKAGE.rglob("*"):
            if "__pycache__" not in path.parts:
                self.assertRegex(path.name, r"^(__init__|[a-z][a-z0-9_]*)(\.py)?$")
                self.assertNotRegex(path.name, r"^(test|conftest|site)")

    def test_every_file(self):
        for path in FILES:
            with self.subTest(path.name):
                self.assertEqual(faults_of(path.read_text(encoding="utf-8")), [])

    def test_no_two_files_draw_from_one_another(self):
        drawn = {}
        for path in FILES:
            tree = ast.parse(path.read_text(encoding="utf-8"))
            drawn["readgrove." + path.stem] = [n.module for n in tree.body if isinstance(n, ast.ImportFrom)]
        while any(not below for below in drawn.values()):
            done = [name for name, below in drawn.items() if not below]
            drawn = {name: [m for m in below if m not in done] for name, below in drawn.items() if name not in done}
        self.assertEqual(drawn, {})

    def test_faults_are_found(self):
        wrong = [
            "import sys", "from .errors import x", "x = 1 / 2", "x = 1.5", "def f(*a):\n    pass", "x = y = 1",
            "def f():\n    yield 1", "with a:\n    pass", "x = {1 for y in z}", "def f(x):\n    x.sort()",
            "def f(list):\n    pass", "def f(x):\n    return type(x)", "x = open", "print(1)", "x = '\t'",
            "def f():\n" + "    pass\n" * 40, "_x = 1", "for x in y:\n    pass",
        ]
        for text in wrong:
            with self.subTest(text):
                self.assertNotEqual(faults_of(text), [])


if __name__ == "__main__":
    unittest.main()
