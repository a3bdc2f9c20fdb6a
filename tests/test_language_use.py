"""The package's files are held against more of ../shared/LANGUAGE.md: how names, calls and values are used.

Looked at: L13, L15 (names bound once, named like others, lists of a file's top), L16 (the file that defines a name),
L18 (methods and values), L20, L22, L23, L24, L26 and L27, each in part.
"""

import ast
import builtins
import pathlib
import unittest

PACKAGE = pathlib.Path(__file__).resolve().parent.parent / "readgrove"
TREES = {path.stem: ast.parse(path.read_text(encoding="utf-8")) for path in sorted(PACKAGE.rglob("*.py"))}

WALKED = {"zip", "enumerate", "reversed", "range"}
WALKED_METHODS = {"items", "keys", "values"}
WALKERS = {"list", "tuple", "dict", "sorted", "sum", "any", "all", "enumerate", "zip", "min", "max"}
CHANGES = {"append", "clear", "extend", "insert", "pop", "remove", "reverse", "setdefault", "update"}
KEYWORDS = {
    "sorted": {"key", "reverse"}, "min": {"key", "default"}, "max": {"key", "default"}, "sum": {"start"},
    "enumerate": {"start"}, "zip": {"strict"},
}
NOT_KEPT = {
    "items", "keys", "values", "pop", "update", "append", "clear", "extend", "insert", "remove", "reverse", "setdefault",
    "sort", "args", "encode", "format",
}


def with_parents(tree):
    for node in ast.walk(tree):
        for child in ast.iter_child_nodes(node):
            child.parent = node
    return tree


def called(node):
    if not isinstance(node, ast.Call):
        return None
    return node.func.id if isinstance(node.func, ast.Name) else None


def is_walked_on_the_spot(node):
    above = node.parent
    if isinstance(above, (ast.For, ast.comprehension)):
        return above.iter is node
    if isinstance(above, ast.Call) and node in above.args:
        joined = isinstance(above.func, ast.Attribute) and above.func.attr == "join"
        return joined or (called(above) in WALKERS and above.args[0] is node) or called(above) == "zip"
    return False


def is_set_in_its_place(node):
    above = node.parent
    while isinstance(above, ast.BinOp):
        node, above = above, above.parent
    return isinstance(above, ast.Compare) or called(above) in ("sorted", "len")


def call_faults(node):
    faults = []
    name = called(node)
    method = node.func.attr if isinstance(node.func, ast.Attribute) else None
    if (name in WALKED or method in WALKED_METHODS) and not is_walked_on_the_spot(node):
        faults.append("L23 kept")
    if name in ("set", "frozenset") and not is_set_in_its_place(node):
        faults.append("L24")
    if hasattr(builtins, name or "") or method in CHANGES:
        faults += ["L22 keyword" for word in node.keywords if word.arg not in KEYWORDS.get(name, ())]
    return faults


def is_builtin_value(node):
    if not isinstance(node.ctx, ast.Load) or not hasattr(builtins, node.id):
        return False
    above = node.parent
    if isinstance(above, ast.Call) and above.func is node:
        return False
    if isinstance(above, ast.Tuple):
        above = above.parent
    return not (isinstance(above, (ast.keyword, ast.ClassDef)) or called(above) == "isinstance")


def text_of(node):
    return ast.unparse(node)


def walked_thing(node):
    if isinstance(node, ast.Call) and (called(node) in ("enumerate", "zip", "reversed")) and node.args:
        return walked_thing(node.args[0])
    if isinstance(node, ast.Call) and isinstance(node.func, ast.Attribute) and node.func.attr in WALKED_METHODS:
        return text_of(node.func.value)
    return text_of(node)


def loop_faults(node):
    thing = walked_thing(node.iter)
    faults = []
    for part in [inner for row in node.body for inner in ast.walk(row)]:
        if isinstance(part, ast.Call) and isinstance(part.func, ast.Attribute) and part.func.attr in CHANGES:
            faults += ["L23 changed"] if text_of(part.func.value) == thing else []
        if isinstance(part, ast.Subscript) and isinstance(part.ctx, ast.Store):
            faults += ["L23 changed"] if text_of(part.value) == thing else []
    return faults


def node_faults(node):
    if isinstance(node, ast.Call):
        return call_faults(node)
    if isinstance(node, ast.Name):
        return ["L22 value"] if is_builtin_value(node) else []
    if isinstance(node, ast.For):
        return loop_faults(node)
    if isinstance(node, (ast.Assign, ast.AugAssign)):
        target = node.targets[0] if isinstance(node, ast.Assign) else node.target
        return ["L6 targets"] if isinstance(target, (ast.Tuple, ast.List)) else []
    if isinstance(node, ast.Compare):
        beside = [node.left] + node.comparators
        plain = any(isinstance(one, ast.Constant) and isinstance(one.value, (bool, type(None))) for one in beside)
        return ["L20"] if any(isinstance(op, (ast.Is, ast.IsNot)) for op in node.ops) and not plain else []
    if isinstance(node, ast.BinOp) and isinstance(node.op, ast.Pow):
        return ["L27"] if not isinstance(node.right, ast.Constant) else []
    if isinstance(node, ast.Constant) and isinstance(node.value, str):
        return ["L27"] if "%" in node.value else []
    if isinstance(node, (ast.Set, ast.Try, ast.AnnAssign)):
        return ["not used here"]
    return []


def scope_faults(tree):
    imports = {alias.asname or alias.name for node in tree.body if isinstance(node, ast.ImportFrom) for alias in node.names}
    classes = {node.name for node in tree.body if isinstance(node, ast.ClassDef)}
    top = [node.name for node in tree.body if isinstance(node, (ast.FunctionDef, ast.ClassDef))] + list(imports)
    top += [node.targets[0].id for node in tree.body if isinstance(node, ast.Assign)]
    faults = ["L15 bound twice"] if len(set(top)) < len(top) else []
    stored = [node.id for node in ast.walk(tree) if isinstance(node, ast.Name) and isinstance(node.ctx, ast.Store)]
    stored += [node.arg for node in ast.walk(tree) if isinstance(node, ast.arg)]
    faults += ["L15 " + name for name in stored if name in imports | classes or hasattr(builtins, name)]
    used = {node.id for node in ast.walk(tree) if isinstance(node, ast.Name)}
    return faults + ["not used: " + name for name in imports - used]


def top_value_faults(tree):
    faults = []
    values = {n.targets[0].id: n.value for n in tree.body if isinstance(n, ast.Assign)}
    changed = {name for name, value in values.items() if isinstance(value, (ast.List, ast.Dict))}
    for name in changed:
        within = [node for node in ast.walk(values[name]) if isinstance(node, (ast.List, ast.Dict))]
        faults += ["L15 list in a list"] if len(within) > 1 else []
    for node in ast.walk(tree):
        if isinstance(node, ast.Name) and node.id in changed and isinstance(node.ctx, ast.Load):
            above = node.parent
            read = isinstance(above, (ast.Subscript, ast.Compare)) and not isinstance(
                getattr(above, "ctx", ast.Load()), ast.Store)
            read = read or (isinstance(above, ast.Attribute) and above.attr in ("get", "items", "keys", "values"))
            faults += [] if read or called(above) in ("len", "list", "dict") else ["L15 handed on"]
    return faults


def faults_of(tree):
    with_parents(tree)
    faults = scope_faults(tree) + top_value_faults(tree)
    for node in ast.walk(tree):
        faults += [f"row {getattr(node, 'lineno', 0)}: {fault}" for fault in node_faults(node)]
    return faults


class Use(unittest.TestCase):
    def test_every_file(self):
        for name, tree in TREES.items():
            with self.subTest(name):
                self.assertEqual(faults_of(tree), [])

    def test_names_are_drawn_from_the_file_that_defines_them(self):
        for name, tree in TREES.items():
            for node in tree.body:
                if isinstance(node, ast.ImportFrom):
                    other = TREES[node.module.split(".")[1]]
                    there = [n.name for n in other.body if isinstance(n, (ast.FunctionDef, ast.ClassDef))]
                    there += [n.targets[0].id for n in other.body if isinstance(n, ast.Assign)]
                    self.assertEqual([a.name for a in node.names if a.name not in there or a.asname], [], name)

    def test_methods_and_values_of_objects(self):
        methods, values = set(), set()
        for tree in TREES.values():
            for node in ast.walk(tree):
                if isinstance(node, ast.ClassDef):
                    methods |= {inner.name for inner in node.body if isinstance(inner, ast.FunctionDef)}
                if isinstance(node, ast.Attribute) and isinstance(node.ctx, ast.Store):
                    values.add(node.attr)
        self.assertEqual(methods & values, set())
        self.assertEqual(values & NOT_KEPT, set())

    def test_faults_are_found(self):
        wrong = [
            "def f(x):\n    y = range(3)", "def f(x):\n    return x.items()", "def f(x):\n    return reversed(range(x))",
            "def f(x):\n    y = set(x)", "def f(x):\n    return x is 1", "def f(x):\n    a, b = x", "def f(x):\n    return len",
            "def f(x):\n    for y in x:\n        x.append(y)", "def f(x):\n    for y, z in x.items():\n        x[y] = z",
            "X = []\ndef f(y):\n    X.append(y)", "X = {}\ndef f():\n    return X", "X = [[1]]", "X = '%'",
            "from a import b\ndef f(b):\n    return b", "def f():\n    pass\ndef f():\n    pass", "def f(n):\n    return 2 ** n",
        ]
        for text in wrong:
            with self.subTest(text):
                self.assertNotEqual(faults_of(ast.parse(text)), [])


if __name__ == "__main__":
    unittest.main()
