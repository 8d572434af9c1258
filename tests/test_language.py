"""That the package keeps to LANGUAGE.md, as far as a test can see; each check is named by its rule."""

import ast
import builtins
import pathlib
import re
import unittest

PACKAGE = pathlib.Path(__file__).resolve().parent.parent / "postalhouse"
OWN_NAMES = (
    "len range enumerate zip min max sum abs sorted reversed int str bool list tuple dict set frozenset isinstance "
    "ord repr any all divmod Exception ValueError TypeError KeyError IndexError LookupError ZeroDivisionError "
    "ArithmeticError OverflowError RuntimeError NotImplementedError AttributeError StopIteration"
).split()
METHODS = (
    "append clear copy count endswith extend find get index insert isalnum isalpha isdigit islower isspace isupper "
    "items join keys ljust lower lstrip partition pop remove replace reverse rfind rjust rpartition rsplit rstrip "
    "setdefault split splitlines startswith strip update upper values zfill bit_length"
).split()
VALUES = "count index title find get join lower upper split strip copy add".split()
DUNDERS = "__init__ __eq__ __repr__ __str__ __len__".split()
UNUSED_NAMES = "register mro elements open input version_info with_traceback add_note".split()
WORDS = (
    "type typing typing_extensions enum Enum IntEnum StrEnum Flag IntFlag Generic Protocol ABC ABCMeta namedtuple "
    "NamedTuple TypedDict TYPE_CHECKING abstractmethod"
).split()
BAD_FILES = "test tests testing site conftest sitecustomize usercustomize".split()
STATEMENTS = (
    ast.FunctionDef, ast.ClassDef, ast.ImportFrom, ast.Assign, ast.AugAssign, ast.If, ast.While, ast.For, ast.Return,
    ast.Break, ast.Continue, ast.Pass, ast.Raise, ast.Try, ast.Expr,
)
EXPRESSIONS = (
    ast.Constant, ast.Name, ast.List, ast.Tuple, ast.Dict, ast.Set, ast.BinOp, ast.UnaryOp, ast.BoolOp, ast.Compare,
    ast.IfExp, ast.Call, ast.Attribute, ast.Subscript, ast.Slice, ast.ListComp, ast.JoinedStr, ast.FormattedValue,
    ast.Lambda,
)
WALKED = ("zip", "enumerate", "reversed", "range", "items", "keys", "values")
WALKERS = ("list", "tuple", "dict", "sorted", "sum", "any", "all", "enumerate", "zip", "min", "max", "join")
KEYWORDS = {
    "sorted": ("key", "reverse"), "min": ("key", "default"), "max": ("key", "default"),
    "sum": ("start",), "enumerate": ("start",), "zip": ("strict",),
}
PYTHON_VALUES = ("", 0, [], {}, set(), b"")


def python_attributes():
    return {name for value in PYTHON_VALUES for name in dir(value)}


def is_docstring(node):
    return isinstance(node, ast.Expr) and isinstance(node.value, ast.Constant) and isinstance(node.value.value, str)


def is_plain(node, nested=False):
    if isinstance(node, ast.UnaryOp):
        return isinstance(node.op, ast.USub) and is_plain(node.operand)
    if isinstance(node, (ast.List, ast.Tuple)):
        if nested and isinstance(node, ast.List):
            return False
        return all(is_plain(part, True) for part in node.elts)
    if isinstance(node, ast.Dict):
        return not nested and all(is_plain(part, True) for part in node.keys + node.values)
    return isinstance(node, ast.Constant) and isinstance(node.value, (int, str, type(None)))


def called(node):
    """What a call calls: a name or a method's name."""
    if isinstance(node.func, ast.Name):
        return node.func.id
    return node.func.attr if isinstance(node.func, ast.Attribute) else ""


def bound_names(tree):
    """All parameters and locals."""
    names = []
    for node in ast.walk(tree):
        if isinstance(node, ast.arg):
            names.append(node.arg)
        if isinstance(node, ast.Name) and isinstance(node.ctx, ast.Store):
            names.append(node.id)
    return names


def top_names(tree):
    names = []
    for node in tree.body:
        if isinstance(node, (ast.FunctionDef, ast.ClassDef)):
            names.append(node.name)
        if isinstance(node, ast.Assign):
            names += [target.id for target in node.targets if isinstance(target, ast.Name)]
    return names


def imported_names(tree):
    return [alias.name for node in tree.body if isinstance(node, ast.ImportFrom) for alias in node.names]


def look_at_text(text):
    faults = []
    lines = text.split("\n")
    if len(lines) - 1 > 400 or any(len(line) > 120 for line in lines):
        faults.append("L10")
    if any(sign != "\n" and not " " <= sign <= "~" for sign in text):
        faults.append("L14")
    if set(re.findall(r"\w+", text)) & set(WORDS) or re.search("dataclass|overload|contextmanager", text):
        faults.append("L17")
    return faults


def look_at_top(tree):
    faults = []
    for place, node in enumerate(tree.body):
        if isinstance(node, (ast.FunctionDef, ast.ClassDef, ast.ImportFrom)) or (place == 0 and is_docstring(node)):
            continue
        single = isinstance(node, ast.Assign) and len(node.targets) == 1 and isinstance(node.targets[0], ast.Name)
        if not single or not is_plain(node.value):
            faults.append("L3")
    names = top_names(tree) + imported_names(tree)
    if len(names) != len(set(names)):
        faults.append("L15")
    taken = imported_names(tree) + [node.name for node in tree.body if isinstance(node, ast.ClassDef)] + dir(builtins)
    inner = [name for node in tree.body if isinstance(node, (ast.FunctionDef, ast.ClassDef)) for name in bound_names(node)]
    if set(inner) & set(taken) or set(names) & set(dir(builtins)):
        faults.append("L15")
    return faults


def look_at_import(node):
    good = node.level == 0 and (node.module or "").startswith("postalhouse.") and node.col_offset == 0
    return [] if good and all(alias.name != "*" for alias in node.names) else ["L2"]


def look_at_function(node):
    faults = []
    arguments = node.args
    if arguments.vararg or arguments.kwarg or arguments.kwonlyargs or arguments.posonlyargs or node.decorator_list:
        faults.append("L4")
    if node.end_lineno - node.lineno + 1 > 40:
        faults.append("L10")
    if node.returns is not None or any(argument.annotation is not None for argument in arguments.args):
        faults.append("L21")
    return faults


def look_at_class(node):
    plain_body = all(isinstance(part, ast.FunctionDef) or is_docstring(part) for part in node.body)
    if not plain_body or len(node.bases) > 1 or node.keywords or node.decorator_list or node.col_offset:
        return ["L5"]
    return []


def look_at_call(node):
    name = called(node)
    faults = []
    if node.keywords and isinstance(node.func, (ast.Name, ast.Attribute)):
        if name in OWN_NAMES + METHODS and any(word.arg not in KEYWORDS.get(name, ()) for word in node.keywords):
            faults.append("L22")
    if isinstance(node.func, ast.Attribute) and name in python_attributes() and name not in METHODS:
        faults.append("L25")
    if any(isinstance(argument, ast.Starred) for argument in node.args):
        faults.append("L7")
    return faults


def look_at_walks(tree):
    """L23: what is only to be walked stands where it is walked."""
    walked = []
    for node in ast.walk(tree):
        if isinstance(node, (ast.For, ast.comprehension)):
            walked.append(node.iter)
        if isinstance(node, ast.Call) and called(node) in WALKERS:
            walked += node.args
    places = {id(node) for node in walked}
    calls = [node for node in ast.walk(tree) if isinstance(node, ast.Call) and called(node) in WALKED]
    return [] if all(id(node) in places for node in calls) else ["L23"]


def look_at_names(node):
    faults = []
    if isinstance(node, ast.Name):
        if hasattr(builtins, node.id) and node.id not in OWN_NAMES:
            faults.append("L8")
        names = [node.id]
    elif isinstance(node, ast.Attribute):
        names = [node.attr]
    else:
        names = [getattr(node, "name", None) or getattr(node, "arg", None) or "plain"]
    for name in names:
        if name.startswith("_") and name not in DUNDERS:
            faults.append("L12")
        if name in UNUSED_NAMES or name.startswith(("f_", "tb_", "co_")):
            faults.append("L17")
    return faults


def look_at_expression(node):
    faults = []
    if not isinstance(node, EXPRESSIONS):
        faults.append("L7")
    if isinstance(node, ast.Constant) and isinstance(node.value, (float, complex, bytes)):
        faults.append("L7")
    if isinstance(node, ast.Constant) and isinstance(node.value, str) and "%" in node.value:
        faults.append("L27")
    if isinstance(node, ast.ListComp) and (len(node.generators) > 1 or len(node.generators[0].ifs) > 1):
        faults.append("L7")
    if isinstance(node, ast.BinOp) and isinstance(node.op, (ast.Div, ast.MatMult)):
        faults.append("L7")
    if isinstance(node, ast.BinOp) and isinstance(node.op, ast.Pow) and not isinstance(node.right, ast.Constant):
        faults.append("L27")
    if isinstance(node, ast.Compare) and any(isinstance(op, (ast.Is, ast.IsNot)) for op in node.ops):
        if not isinstance(node.comparators[-1], ast.Constant) or isinstance(node.comparators[-1].value, (int, str)) \
                and not isinstance(node.comparators[-1].value, bool):
            faults.append("L20")
    if isinstance(node, ast.Set):
        faults.append("L24")
    return faults


def look_at_statement(node):
    faults = []
    if not isinstance(node, STATEMENTS):
        faults.append("L6")
    if isinstance(node, (ast.For, ast.While)) and node.orelse:
        faults.append("L6")
    if isinstance(node, ast.Try) and (node.finalbody or any(handler.type is None for handler in node.handlers)):
        faults.append("L6")
    if isinstance(node, ast.Assign) and (len(node.targets) > 1 or isinstance(node.targets[0], (ast.Tuple, ast.List))):
        faults.append("L6")
    if isinstance(node, ast.ImportFrom):
        faults += look_at_import(node)
    if isinstance(node, ast.FunctionDef):
        faults += look_at_function(node)
    if isinstance(node, ast.ClassDef):
        faults += look_at_class(node)
    return faults


def look_at_object_values(tree):
    """L26: names of objects' values that Python's own values have too."""
    stored = [node.attr for node in ast.walk(tree) if isinstance(node, ast.Attribute) and isinstance(node.ctx, ast.Store)]
    return ["L26"] if (set(stored) & python_attributes()) - set(VALUES) else []


def look_at_methods(trees):
    """L18: no name is a method here and a value there."""
    methods = []
    values = []
    for tree in trees:
        for node in ast.walk(tree):
            if isinstance(node, ast.ClassDef):
                methods += [part.name for part in node.body if isinstance(part, ast.FunctionDef)]
            if isinstance(node, ast.Attribute) and isinstance(node.ctx, ast.Store):
                values.append(node.attr)
    return ["L18"] if set(methods) & set(values) else []


def faults_of(text):
    """The rules that a file's text breaks."""
    tree = ast.parse(text)
    faults = look_at_text(text) + look_at_top(tree) + look_at_walks(tree) + look_at_object_values(tree)
    faults += look_at_methods([tree])
    for node in ast.walk(tree):
        if isinstance(node, ast.stmt):
            faults += look_at_statement(node)
        if isinstance(node, ast.expr):
            faults += look_at_expression(node)
        if isinstance(node, ast.Call):
            faults += look_at_call(node)
        faults += look_at_names(node)
    return sorted(set(faults))


class Package(unittest.TestCase):
    def setUp(self):
        self.files = sorted(path for path in PACKAGE.iterdir() if path.name != "__pycache__")
        self.texts = {path.stem: path.read_text(encoding="utf-8") for path in self.files}
        self.trees = {name: ast.parse(text) for name, text in self.texts.items()}

    def test_files(self):
        self.assertIn("__init__", self.texts)
        self.assertIn("house", self.texts)
        for path in self.files:
            self.assertRegex(path.name, r"^([a-z][a-z0-9_]*|__init__)\.py$")
            self.assertNotIn(path.stem, BAD_FILES + WORDS + dir(builtins))
            self.assertFalse(path.stem.startswith("test_"))

    def test_each_file_keeps_to_the_rules(self):
        for name, text in self.texts.items():
            self.assertEqual(faults_of(text), [], name)

    def test_methods_and_values_in_the_whole_package(self):
        self.assertEqual(look_at_methods(self.trees.values()), [])

    def test_imports_are_from_the_file_that_defines_the_name(self):
        for tree in self.trees.values():
            for node in tree.body:
                if isinstance(node, ast.ImportFrom):
                    source = self.trees[node.module.split(".")[1]]
                    self.assertLessEqual({alias.name for alias in node.names}, set(top_names(source)))

    def test_no_two_files_draw_from_one_another(self):
        drawn = {
            name: [node.module.split(".")[1] for node in tree.body if isinstance(node, ast.ImportFrom)]
            for name, tree in self.trees.items()
        }
        left = dict(drawn)
        while left:
            free = [name for name in left if not set(left[name]) & set(left)]
            self.assertTrue(free, left)
            for name in free:
                left.pop(name)

    def test_the_package_s_own_file_binds_no_file_s_name(self):
        tree = self.trees["__init__"]
        self.assertFalse(set(top_names(tree) + imported_names(tree)) & set(self.texts))


class Checks(unittest.TestCase):
    """Each check finds what it is there for."""

    BROKEN = {
        "L2": ("from os import path", "from .house import answers", "from postalhouse.house import *"),
        "L3": ("X = len([])", "print(1)", "for x in [1]:\n    pass", "X = {1: [2]}", "X, Y = 1, 2"),
        "L4": ("def f(*xs):\n    return xs", "def f(**xs):\n    return xs", "@f\ndef g():\n    return 1"),
        "L5": ("class A:\n    x = 1", "class A(B, C):\n    pass"),
        "L6": ("import os", "def f(x):\n    assert x", "def f(x):\n    with x:\n        pass", "def f():\n    a = b = 1",
               "def f(xs):\n    for x in xs:\n        pass\n    else:\n        pass", "def f(x):\n    del x"),
        "L7": ("X = 1.5", "def f(x):\n    return x / 2", "def f(xs):\n    return {x: 1 for x in xs}",
               "def f(xs):\n    return [x for x in xs for y in x]", "def f(xs):\n    return g(*xs)"),
        "L8": ("def f(x):\n    return getattr(x, 'a')", "def f():\n    print(1)"),
        "L10": ("X = 1" + " " * 120, "def f(x):\n" + "    x = 1\n" * 40, "X = 1\n" * 401),
        "L12": ("def f(xs):\n    return [1 for _ in xs]", "def f(_x):\n    return 1"),
        "L14": ("X = 1\t", "# \u00e4"),
        "L15": ("X = 1\nX = 2", "def f(min):\n    return min", "class A:\n    pass\n\ndef f(A):\n    return A"),
        "L17": ("# a type", "def f(x):\n    return x.f_back", "X = 'overloaded'"),
        "L18": ("class A:\n    def go(self):\n        self.go = 1",),
        "L20": ("def f(x, y):\n    return x is y", "def f(x):\n    return x is 1"),
        "L21": ("def f(x: int):\n    return x", "def f(x) -> int:\n    return x"),
        "L22": ("def f(xs):\n    return sorted(xs, reverted=True)", "def f(x):\n    return int(x, base=2)"),
        "L23": ("def f(xs):\n    ys = zip(xs, xs)\n    return ys", "def f(d):\n    return d.items()"),
        "L24": ("def f(x):\n    return x in {1, 2, 3}",),
        "L25": ("def f(xs):\n    xs.sort()",),
        "L26": ("def f(x):\n    x.items = 1",),
        "L27": ("X = '%'", "def f(n):\n    return 2 ** n"),
    }

    def test_what_is_broken_is_found(self):
        for rule, texts in self.BROKEN.items():
            for text in texts:
                self.assertIn(rule, faults_of(text), text)

    def test_what_is_whole_is_not(self):
        text = '"""A file."""\n\nX = (1, -2)\n\n\ndef f(xs):\n    """Give back."""\n    return [x + 1 for x in xs if x]\n'
        self.assertEqual(faults_of(text), [])


if __name__ == "__main__":
    unittest.main()
