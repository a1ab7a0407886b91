"""The package's own files keep to the part of Python that the program is written in, as far as a walk can see it."""

import ast
import builtins
import pathlib
import re
import unittest

FOLDER = pathlib.Path(__file__).resolve().parent.parent / "pacehall"

NODES = (
    ast.Module, ast.ImportFrom, ast.alias, ast.FunctionDef, ast.ClassDef, ast.arguments, ast.arg, ast.Lambda,
    ast.Assign, ast.AugAssign, ast.If, ast.While, ast.For, ast.Return, ast.Break, ast.Continue, ast.Pass,
    ast.Raise, ast.Try, ast.ExceptHandler, ast.Expr, ast.Name, ast.Constant, ast.List, ast.Tuple, ast.Dict, ast.Set,
    ast.BinOp, ast.UnaryOp, ast.BoolOp, ast.Compare, ast.IfExp, ast.Call, ast.keyword, ast.Attribute, ast.Subscript,
    ast.Slice, ast.ListComp, ast.comprehension, ast.JoinedStr, ast.FormattedValue,
    ast.expr_context, ast.operator, ast.unaryop, ast.boolop, ast.cmpop,
)
BUILTINS = (
    "len range enumerate zip min max sum abs sorted reversed int str bool list tuple dict set frozenset isinstance ord "
    "repr any all divmod Exception ValueError TypeError KeyError IndexError LookupError ZeroDivisionError "
    "ArithmeticError OverflowError RuntimeError NotImplementedError AttributeError StopIteration"
).split()
METHODS = (
    "append clear copy count endswith extend find get index insert isalnum isalpha isdigit islower isspace isupper "
    "items join keys ljust lower lstrip partition pop remove replace reverse rfind rjust rpartition rsplit rstrip "
    "setdefault split splitlines startswith strip update upper values zfill bit_length __init__"
).split()
DUNDERS = "__init__ __eq__ __repr__ __str__ __len__ __all__ __version__".split()
WORDS = re.compile(
    r"\b(type|typing|typing_extensions|enum|Enum|IntEnum|StrEnum|Flag|IntFlag|Generic|Protocol|ABC|ABCMeta|namedtuple"
    r"|NamedTuple|TypedDict|TYPE_CHECKING|abstractmethod)\b|dataclass|overload|contextmanager"
)
UNUSED = "register mro elements open input version_info with_traceback add_note format format_map".split()
NO_NAMES = (
    "attrgetter breakpoint builtins compile copyright credits delattr dir eval exec exit gc getattr globals hasattr "
    "help id importlib license locals methodcaller os quit setattr super type vars sys __name__"
).split()
WALKS = "zip enumerate reversed range".split()
WALK_METHODS = "items keys values".split()
WALKERS = "list tuple dict sorted sum any all enumerate zip".split()
KEYWORDS = {
    "sorted": ["key", "reverse"], "min": ["key", "default"], "max": ["key", "default"], "sum": ["start"],
    "enumerate": ["start"], "zip": ["strict"],
}
VALUES = (
    "items keys values pop update append clear extend insert remove reverse setdefault sort args encode format"
).split()
FREE_VALUES = "count index title find get join lower upper split strip copy add".split()
TAKEN = {name for kind in [str, int, list, dict, set, frozenset, bytes, tuple] for name in dir(kind)}
TAKEN_ALONE = ["ValueError", "LookupError", "IndexError"]


def is_docstring(tree, node):
    return node is tree.body[0] and isinstance(node, ast.Expr) and isinstance(node.value, ast.Constant)


def text_faults(text):
    rows = text.split("\n")
    faults = ["L10 file"] if len(rows) > 401 else []
    faults += [f"L10 row {at}" for at, row in enumerate(rows, 1) if len(row) > 120]
    faults += [f"L14 sign in row {at}" for at, row in enumerate(rows, 1) if re.search("[^ -~]", row)]
    faults += [f"L17 word in row {at}" for at, row in enumerate(rows, 1) if WORDS.search(row)]
    return faults


def name_faults(name, line, bound):
    faults = []
    if name not in DUNDERS and not re.fullmatch("[A-Za-z][A-Za-z0-9_]*", name):
        faults.append(f"L12 {name} in row {line}")
    if name in UNUSED:
        faults.append(f"L17 {name} in row {line}")
    if bound and hasattr(builtins, name):
        faults.append(f"L15 {name} in row {line}")
    return faults


def function_faults(node):
    arguments = node.args
    faults = [f"L4 row {node.lineno}"] if (
        node.decorator_list or arguments.vararg or arguments.kwarg or arguments.kwonlyargs or arguments.posonlyargs
    ) else []
    if node.end_lineno - node.lineno + 1 > 40:
        faults.append(f"L10 {node.name}")
    return faults


def class_faults(node):
    good = not node.decorator_list and not node.keywords and len(node.bases) <= 1
    good = good and all(isinstance(part, (ast.FunctionDef, ast.Pass)) for part in node.body)
    return [] if good else [f"L5 {node.name}"]


def node_faults(tree, node, own):
    line = getattr(node, "lineno", 0)
    if not isinstance(node, NODES):
        return [f"L6 L7 {type(node).__name__} in row {line}"]
    faults = []
    if isinstance(node, ast.Name):
        bound = isinstance(node.ctx, ast.Store)
        faults += name_faults(node.id, line, bound)
        if not bound and node.id not in own and hasattr(builtins, node.id) and node.id not in BUILTINS:
            faults.append(f"L8 {node.id} in row {line}")
    if isinstance(node, ast.arg):
        faults += name_faults(node.arg, line, True) + (["L21"] if node.annotation else [])
    if isinstance(node, ast.Attribute):
        faults += name_faults(node.attr, line, False)
    if isinstance(node, ast.FunctionDef):
        faults += name_faults(node.name, line, False) + function_faults(node)
    if isinstance(node, ast.ClassDef):
        faults += name_faults(node.name, line, False) + class_faults(node)
    if isinstance(node, ast.Expr) and not isinstance(node.value, ast.Call) and not is_docstring(tree, node):
        faults.append(f"L6 row {line}")
    if isinstance(node, ast.Call) and isinstance(node.func, ast.Attribute):
        if node.func.attr not in METHODS and node.func.attr not in own:
            faults.append(f"L25 {node.func.attr} in row {line}")
    return faults + value_faults(node, line)


def value_faults(node, line):
    faults = []
    if isinstance(node, ast.Constant):
        if isinstance(node.value, (float, complex, bytes)) or node.value is ...:
            faults.append(f"L7 row {line}")
        if isinstance(node.value, str) and "%" in node.value:
            faults.append(f"L27 row {line}")
    if isinstance(node, ast.Div):
        faults.append("L7 /")
    if isinstance(node, ast.FormattedValue):
        if not isinstance(node.value, ast.Name) or node.format_spec or node.conversion not in (-1, ord("r")):
            faults.append(f"L7 row {line}")
    if isinstance(node, ast.Set) and len(node.elts) > 2:
        faults.append(f"L13 row {line}")
    if isinstance(node, ast.BinOp) and isinstance(node.op, ast.Pow):
        if not (isinstance(node.right, ast.Constant) and 0 <= node.right.value <= 64):
            faults.append(f"L27 ** in row {line}")
    if isinstance(node, ast.Compare) and any(isinstance(op, (ast.Is, ast.IsNot)) for op in node.ops):
        if not all(isinstance(side, ast.Constant) for side in node.comparators):
            faults.append(f"L20 row {line}")
    if isinstance(node, ast.ListComp) and (len(node.generators) > 1 or len(node.generators[0].ifs) > 1):
        faults.append(f"L7 row {line}")
    if isinstance(node, ast.Assign) and (len(node.targets) > 1 or isinstance(node.targets[0], (ast.Tuple, ast.List))):
        faults.append(f"L6 target in row {line}")
    if isinstance(node, (ast.For, ast.While)) and node.orelse or isinstance(node, ast.Try) and node.finalbody:
        faults.append(f"L6 row {line}")
    return faults


def is_call_of(node, names):
    return isinstance(node, ast.Call) and isinstance(node.func, ast.Name) and node.func.id in names


def is_walk(node):
    if is_call_of(node, WALKS):
        return True
    return isinstance(node, ast.Call) and isinstance(node.func, ast.Attribute) and node.func.attr in WALK_METHODS


def stands_walked(node, above):
    if isinstance(above, (ast.For, ast.comprehension)):
        return node is above.iter
    if is_call_of(above, WALKERS):
        return node is above.args[0]
    if is_call_of(above, ["min", "max"]):
        return above.args == [node]
    return isinstance(above, ast.Call) and isinstance(above.func, ast.Attribute) and above.func.attr == "join"


def is_set(node):
    return isinstance(node, ast.Set) or is_call_of(node, ["set", "frozenset"])


def stands_as_set(node, above, parents):
    while isinstance(above, ast.BinOp):
        node, above = above, parents[above]
    if isinstance(above, ast.Compare):
        return True
    return is_call_of(above, ["sorted", "len"]) and not above.keywords


def stands_as_class(node, above, parents):
    if isinstance(above, ast.Call):
        return node is above.func or is_call_of(above, ["isinstance"])
    if isinstance(above, ast.Tuple):
        return stands_as_class(above, parents[above], parents)
    if isinstance(above, ast.Attribute):
        return above.attr == "__init__"
    return isinstance(above, (ast.ClassDef, ast.ExceptHandler, ast.Raise))


def placed_faults(tree, classes):
    parents = {child: node for node in ast.walk(tree) for child in ast.iter_child_nodes(node)}
    faults = []
    for node, above in parents.items():
        line = getattr(node, "lineno", 0)
        if is_walk(node) and not stands_walked(node, above):
            faults.append(f"L23 row {line}")
        if is_set(node) and not stands_as_set(node, above, parents):
            faults.append(f"L24 row {line}")
        if isinstance(node, ast.Name) and node.id in classes and not stands_as_class(node, above, parents):
            faults.append(f"L18 {node.id} in row {line}")
        if isinstance(node, ast.Attribute) and node.attr in METHODS and isinstance(node.ctx, ast.Load):
            if not (isinstance(above, ast.Call) and node is above.func):
                faults.append(f"L25 {node.attr} in row {line}")
    return faults


def call_faults(tree):
    faults = []
    for node in ast.walk(tree):
        if not isinstance(node, ast.Call):
            continue
        name = node.func.id if isinstance(node.func, ast.Name) else getattr(node.func, "attr", "")
        for keyword in node.keywords:
            known = name in BUILTINS or name in METHODS
            if known and keyword.arg not in KEYWORDS.get(name, []):
                faults.append(f"L22 {name} {keyword.arg}")
    return faults


def walked_names(node):
    if isinstance(node, ast.Call) and is_walk(node):
        inner = [node.func.value] if isinstance(node.func, ast.Attribute) else node.args
        return [name for part in inner for name in walked_names(part)]
    return [ast.dump(node)] if isinstance(node, (ast.Name, ast.Attribute)) else []


CHANGES = "append clear extend insert pop remove reverse setdefault update".split()


def changed_walk_faults(tree):
    faults = []
    for loop in ast.walk(tree):
        if not isinstance(loop, ast.For):
            continue
        walked = walked_names(loop.iter)
        for node in [node for part in loop.body for node in ast.walk(part)]:
            changed = None
            if isinstance(node, ast.Subscript) and isinstance(node.ctx, ast.Store):
                changed = node.value
            if isinstance(node, ast.Call) and isinstance(node.func, ast.Attribute) and node.func.attr in CHANGES:
                changed = node.func.value
            if changed is not None and ast.dump(changed) in walked:
                faults.append(f"L23 changed in row {node.lineno}")
    return faults


def error_faults(tree):
    faults = []
    for node in ast.walk(tree):
        if isinstance(node, ast.ExceptHandler):
            kinds = node.type.elts if isinstance(node.type, ast.Tuple) else [node.type]
            names = [kind.id if isinstance(kind, ast.Name) else "" for kind in kinds]
            bad = [name for name in names if name in TAKEN_ALONE + ["", "Exception", "TypeError"]]
            faults += [f"L19 {name} in row {node.lineno}" for name in bad]
        if isinstance(node, ast.Raise) and not isinstance(node.exc, ast.Call):
            faults.append(f"L19 row {node.lineno}")
    return faults


def bound_faults(tree):
    fixed = [node.name for node in tree.body if isinstance(node, ast.ClassDef)]
    fixed += [part.asname or part.name for row in drawn(tree) for part in row.names]
    faults = []
    for node in ast.walk(tree):
        name = node.arg if isinstance(node, ast.arg) else None
        if isinstance(node, ast.Name) and isinstance(node.ctx, ast.Store):
            name = node.id
        if name in fixed:
            faults.append(f"L15 {name} in row {node.lineno}")
        if isinstance(node, ast.Name) and node.id in NO_NAMES:
            faults.append(f"L17 {node.id} in row {node.lineno}")
    for node in tree.body:
        if isinstance(node, ast.Assign) and isinstance(node.value, (ast.List, ast.Dict)):
            inner = [part for part in ast.walk(node.value) if isinstance(part, (ast.List, ast.Dict, ast.Set))]
            faults += [f"L15 row {node.lineno}"] if len(inner) > 1 else []
    return faults


def member_faults(tree):
    faults = []
    for node in ast.walk(tree):
        if isinstance(node, ast.ClassDef):
            names = [part.name for part in node.body if isinstance(part, ast.FunctionDef)]
            faults += [f"L18 {name} twice" for name in set(names) if names.count(name) > 1]
            free = METHODS + DUNDERS + ["add", "discard"]
            faults += [f"L26 {name}" for name in names if name in TAKEN and name not in free]
        if isinstance(node, ast.Attribute) and isinstance(node.ctx, ast.Store):
            if node.attr in VALUES or (node.attr in TAKEN and node.attr not in FREE_VALUES):
                faults.append(f"L26 {node.attr} in row {node.lineno}")
            if not isinstance(node.value, ast.Name):
                faults.append(f"L18 row {node.lineno}")
    return faults


def top_faults(tree):
    kinds = (ast.ImportFrom, ast.FunctionDef, ast.ClassDef, ast.Assign)
    bad = [node for node in tree.body if not isinstance(node, kinds) and not is_docstring(tree, node)]
    names = top_names(tree)
    faults = [f"L3 row {node.lineno}" for node in bad]
    return faults + [f"L15 {name} twice" for name in sorted(set(names)) if names.count(name) > 1]


def top_names(tree):
    names = [node.name for node in tree.body if isinstance(node, (ast.FunctionDef, ast.ClassDef))]
    return names + [node.targets[0].id for node in tree.body if isinstance(node, ast.Assign)]


def drawn(tree):
    return [node for node in ast.walk(tree) if isinstance(node, ast.ImportFrom)]


def class_names(tree):
    return [node.name for node in ast.walk(tree) if isinstance(node, ast.ClassDef)]


def file_faults(text, own=(), classes=()):
    tree = ast.parse(text)
    faults = text_faults(text) + top_faults(tree)
    faults += placed_faults(tree, list(classes) + class_names(tree)) + call_faults(tree) + changed_walk_faults(tree)
    faults += error_faults(tree) + bound_faults(tree) + member_faults(tree)
    for node in ast.walk(tree):
        faults += node_faults(tree, node, own)
    return faults


class LanguageTest(unittest.TestCase):

    def setUp(self):
        self.texts = {path.stem: path.read_text(encoding="utf-8") for path in sorted(FOLDER.glob("*.py"))}
        self.trees = {name: ast.parse(text) for name, text in self.texts.items()}

    def test_nothing_else_lies_in_the_package(self):
        found = [path.name for path in FOLDER.iterdir() if path.name != "__pycache__"]
        self.assertIn("__init__.py", found)
        for name in found:
            self.assertRegex(name, r"\A([a-z][a-z0-9_]*|__init__)\.py\Z")

    def test_each_file(self):
        nodes = [node for tree in self.trees.values() for node in ast.walk(tree)]
        own = {node.name for node in nodes if isinstance(node, ast.FunctionDef)}
        classes = {name for tree in self.trees.values() for name in class_names(tree)}
        for name, text in self.texts.items():
            with self.subTest(file=name):
                self.assertEqual([], file_faults(text, own, classes))

    def test_imports_come_from_the_file_that_defines_the_name(self):
        for name, tree in self.trees.items():
            for row in drawn(tree):
                with self.subTest(file=name, row=row.lineno):
                    self.assertEqual(0, row.level)
                    self.assertRegex(row.module, r"\Apacehall\.[a-z][a-z0-9_]*\Z")
                    known = top_names(self.trees[row.module.partition(".")[2]])
                    for part in row.names:
                        self.assertIn(part.name, known)

    def test_no_two_files_draw_from_one_another(self):
        left = {name: {row.module.partition(".")[2] for row in drawn(tree)} for name, tree in self.trees.items()}
        while left:
            free = [name for name, needed in left.items() if not needed & set(left)]
            self.assertTrue(free, left)
            left = {name: needed for name, needed in left.items() if name not in free}

    def test_no_name_is_a_method_and_a_value(self):
        nodes = [node for tree in self.trees.values() for node in ast.walk(tree)]
        bodies = [node.body for node in nodes if isinstance(node, ast.ClassDef)]
        methods = {part.name for body in bodies for part in body if isinstance(part, ast.FunctionDef)}
        given = {node.attr for node in nodes if isinstance(node, ast.Attribute) and isinstance(node.ctx, ast.Store)}
        self.assertEqual(set(), methods & given)

    def test_the_walk_sees_faults(self):
        for text in [
            "import sys\n", "x = 1.5\n", "x = 1 / 2\n", "def f(*xs):\n    return xs\n", "def f(x):\n    yield x\n",
            "def f(x):\n    return x is f\n", "def f(x):\n    a, b = x\n    return a\n", "def f(_x):\n    return 1\n",
            "def f(id):\n    return 1\n", "def f(x):\n    return getattr(x, 'y')\n", "# a type\n", "# \u00e9\n",
            "def f(n):\n    return 2 ** n\n", "def f(x):\n    x.sort()\n", "class A:\n    x = 1\n", "x = 1\nx = 2\n",
            "def f(x):\n    return {y for y in x}\n", "def f(x):\n    assert x\n", "x = '%'\n", "# " + "x" * 119 + "\n",
            "def f(x):\n" + "    x = 1\n" * 40, "print(1)\n", "def f(x):\n    'words'\n",
            "def f(x):\n    y = range(x)\n    return y\n", "def f(x):\n    return x.items()\n",
            "def f(x):\n    y = set(x)\n    return y\n", "def f(x):\n    for y in set(x):\n        pass\n",
            "def f(x):\n    for y in x:\n        x.append(y)\n", "def f(x):\n    for y in x:\n        x[y] = 1\n",
            "class A:\n    pass\n\n\ndef f():\n    return A\n", "class A:\n    def sort(self):\n        pass\n",
            "class A:\n    def f(self):\n        self.values = 1\n", "X = [[1]]\n", "def f(x):\n    return x.append\n",
            "def f(x):\n    try:\n        f(x)\n    except ValueError:\n        pass\n",
            "def f(x):\n    return sorted(x, lambda y: y, foo=1)\n", "def f(x):\n    return f'{x.y}'\n",
            "from pacehall.views import View\n\n\ndef f(View):\n    return 1\n", "def f(e):\n    raise e\n",
        ]:
            with self.subTest(text=text):
                self.assertNotEqual([], file_faults(text))


if __name__ == "__main__":
    unittest.main()
