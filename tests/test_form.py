"""The package's files keep to the part of Python that the project allows, as far as a syntax tree shows it."""

import ast
import builtins
import pathlib
import re
import unittest

PACKAGE = pathlib.Path(__file__).resolve().parent.parent / "flaglocker"

BUILTINS = set(
    "len range enumerate zip min max sum abs sorted reversed int str bool list tuple dict set frozenset isinstance"
    " ord repr any all divmod Exception ValueError TypeError KeyError IndexError LookupError ZeroDivisionError"
    " ArithmeticError OverflowError RuntimeError NotImplementedError AttributeError StopIteration".split()
)
METHODS = set(
    "append clear copy count endswith extend find get index insert isalnum isalpha isdigit islower isspace isupper"
    " items join keys ljust lower lstrip partition pop remove replace reverse rfind rjust rpartition rsplit rstrip"
    " setdefault split splitlines startswith strip update upper values zfill bit_length".split()
)
CHANGING = set("append clear extend insert pop remove reverse setdefault update".split())
DUNDERS = {"__init__", "__eq__", "__repr__", "__str__", "__len__"}
NOT_USED = set(
    "register mro elements open input version_info with_traceback add_note format format_map chr attrgetter breakpoint"
    " builtins compile copyright credits delattr dir eval exec exit gc getattr globals hasattr help id importlib"
    " license locals methodcaller os quit setattr super type vars sys".split()
)
WORDS = (
    r"\b(type|typing|typing_extensions|enum|Enum|IntEnum|StrEnum|Flag|IntFlag|Generic|Protocol|ABC|ABCMeta|namedtuple"
    r"|NamedTuple|TypedDict|TYPE_CHECKING|abstractmethod)\b|dataclass|overload|contextmanager"
)
NODES = (
    ast.Module, ast.ImportFrom, ast.alias, ast.FunctionDef, ast.ClassDef, ast.arguments, ast.arg, ast.Lambda,
    ast.Assign, ast.AugAssign, ast.If, ast.While, ast.For, ast.Return, ast.Break, ast.Continue, ast.Pass, ast.Raise,
    ast.Try, ast.ExceptHandler, ast.Expr, ast.Constant, ast.List, ast.Tuple, ast.Dict, ast.Set, ast.BinOp, ast.UnaryOp,
    ast.BoolOp, ast.Compare, ast.IfExp, ast.Call, ast.keyword, ast.Attribute, ast.Subscript, ast.Slice, ast.ListComp,
    ast.comprehension, ast.JoinedStr, ast.FormattedValue, ast.Name, ast.expr_context, ast.operator, ast.unaryop,
    ast.boolop, ast.cmpop,
)


def text_faults(source):
    faults = []
    rows = source.split("\n")
    if len(rows) > 401:
        faults.append("L10: a file of more than 400 lines")
    if any(len(row) > 120 for row in rows):
        faults.append("L10: a line of more than 120 characters")
    if re.search(r"[^ -~\n]", source):
        faults.append("L14: a sign out of the row")
    if re.search(WORDS, source):
        faults.append("L17: a word that stands nowhere")
    return faults


def top_faults(tree):
    faults = []
    bound = []
    for at, node in enumerate(tree.body):
        if isinstance(node, ast.Expr):
            if at > 0 or not isinstance(node.value, ast.Constant):
                faults.append("L3: something done at the top")
        elif isinstance(node, ast.Assign):
            bound += [target.id for target in node.targets if isinstance(target, ast.Name)]
            try:
                ast.literal_eval(node.value)
            except ValueError:
                faults.append("L3: no plain value at the top")
        elif isinstance(node, ast.ImportFrom):
            bound += [alias.asname or alias.name for alias in node.names]
            own = node.level == 0 and node.module.startswith("flaglocker.")
            if not own or any(alias.name == "*" for alias in node.names):
                faults.append("L2: an import from elsewhere")
        elif isinstance(node, (ast.FunctionDef, ast.ClassDef)):
            bound.append(node.name)
        else:
            faults.append("L3: no such statement at the top")
    if len(bound) > len(set(bound)):
        faults.append("L15: a name bound twice at the top")
    return faults


def name_fault(name):
    if name in DUNDERS:
        return []
    if name.startswith("_") or not name.isascii():
        return [f"L12: the name {name}"]
    if name in NOT_USED or (name in dir(builtins) and name not in BUILTINS):
        return [f"L8, L17: the name {name}"]
    return []


def bound_fault(name):
    return name_fault(name) + ([f"L15: {name} given another meaning"] if name in dir(builtins) else [])


def function_faults(node):
    faults = bound_fault(node.name) if node.name not in DUNDERS else []
    if node.end_lineno - node.lineno + 1 > 40:
        faults.append("L10: a function of more than 40 lines")
    if node.decorator_list or node.args.vararg or node.args.kwarg or node.args.kwonlyargs or node.args.posonlyargs:
        faults.append("L4: a function that is not plain")
    if node.returns:
        faults.append("L21: an annotation")
    if any(isinstance(part, ast.Expr) and not isinstance(part.value, ast.Call) for part in ast.walk(node)):
        faults.append("L6: a value by itself that is no call")
    return faults


def class_faults(node):
    faults = []
    if len(node.bases) > 1 or node.keywords or node.decorator_list:
        faults.append("L5: a class that is not plain")
    if any(not isinstance(part, (ast.FunctionDef, ast.Pass)) for part in node.body):
        faults.append("L5: a value in a class")
    return faults


def statement_faults(node):
    if isinstance(node, ast.FunctionDef):
        return function_faults(node)
    if isinstance(node, ast.ClassDef):
        return class_faults(node)
    if isinstance(node, ast.Assign) and len(node.targets) > 1:
        return ["L6: more than one target"]
    if isinstance(node, (ast.For, ast.While)) and node.orelse:
        return ["L6: else behind a loop"]
    if isinstance(node, ast.Try) and node.finalbody:
        return ["L6: finally"]
    if isinstance(node, ast.ExceptHandler):
        named = ast.dump(node.type) if node.type else "Exception"
        return ["L19: a wide except"] if re.search(r"\b(Exception|TypeError)\b", named) else []
    return []


def value_faults(node):
    if isinstance(node, ast.Name):
        return bound_fault(node.id) if isinstance(node.ctx, ast.Store) else name_fault(node.id)
    if isinstance(node, ast.arg):
        return bound_fault(node.arg) + (["L21: an annotation"] if node.annotation else [])
    if isinstance(node, ast.Attribute):
        return [] if node.attr in METHODS else name_fault(node.attr)
    if isinstance(node, ast.Constant):
        if not isinstance(node.value, (int, str, type(None))):
            return ["L7: a value of another kind"]
        return ["L27: a sign within a text"] if isinstance(node.value, str) and "%" in node.value else []
    if isinstance(node, ast.BinOp) and isinstance(node.op, (ast.Div, ast.MatMult)):
        return ["L7: no such operator"]
    if isinstance(node, ast.ListComp) and (len(node.generators) > 1 or len(node.generators[0].ifs) > 1):
        return ["L7: a comprehension of several parts"]
    if isinstance(node, ast.Compare) and any(isinstance(op, (ast.Is, ast.IsNot)) for op in node.ops):
        beside = [part for part in [node.left] + node.comparators if isinstance(part, ast.Constant)]
        return [] if any(part.value in (None, True, False) for part in beside) else ["L20: is"]
    return []


def form_faults(source):
    tree = ast.parse(source)
    faults = text_faults(source) + top_faults(tree) + shadow_faults(tree) + change_faults(tree)
    for node in ast.walk(tree):
        if not isinstance(node, NODES):
            faults.append(f"L6, L7: {ast.dump(node)}")
        faults += statement_faults(node) + value_faults(node)
    return faults


def shadow_faults(tree):
    """L15: no parameter and no local is called like a class or an import of its file."""
    taken = [alias.name for node in tree.body if isinstance(node, ast.ImportFrom) for alias in node.names]
    taken += [node.name for node in tree.body if isinstance(node, ast.ClassDef)]
    inside = [node for part in tree.body if not isinstance(part, ast.Assign) for node in ast.walk(part)]
    bound = [node.arg for node in inside if isinstance(node, ast.arg)]
    bound += [node.id for node in inside if isinstance(node, ast.Name) and isinstance(node.ctx, ast.Store)]
    return [f"L15: {name} is a name of the file" for name in bound if name in taken]


def walked_by(loop):
    """What a loop walks, itself or through enumerate, zip, reversed, items and their like."""
    walked = [loop.iter]
    if isinstance(loop.iter, ast.Call):
        walked += loop.iter.args
        if isinstance(loop.iter.func, ast.Attribute):
            walked.append(loop.iter.func.value)
    return [ast.unparse(part) for part in walked]


def changed_in(loop):
    changed = []
    for node in ast.walk(loop):
        if isinstance(node, ast.Attribute) and node.attr in CHANGING:
            changed.append(ast.unparse(node.value))
        if isinstance(node, ast.Subscript) and isinstance(node.ctx, ast.Store):
            changed.append(ast.unparse(node.value))
    return changed


def change_faults(tree):
    faults = []
    for loop in ast.walk(tree):
        if isinstance(loop, ast.For) and set(walked_by(loop)) & set(changed_in(loop)):
            faults.append("L23: what is walked is changed")
    return faults


def methods_and_values(trees):
    """L18: the names of all methods of the package, and those of all values that its objects are given."""
    nodes = [node for tree in trees for node in ast.walk(tree)]
    methods = [part.name for node in nodes if isinstance(node, ast.ClassDef) for part in node.body
               if isinstance(part, ast.FunctionDef)]
    values = [node.attr for node in nodes if isinstance(node, ast.Attribute) and isinstance(node.ctx, ast.Store)]
    return set(methods), set(values)


def drawn_from(path):
    tree = ast.parse(path.read_text(encoding="utf-8"))
    return [node.module.partition(".")[2] for node in ast.walk(tree) if isinstance(node, ast.ImportFrom)]


class Form(unittest.TestCase):
    def test_the_folder_holds_plain_files_alone(self):
        names = [path.name for path in PACKAGE.iterdir() if path.name != "__pycache__"]
        self.assertIn("__init__.py", names)
        for name in names:
            self.assertRegex(name, r"\A[a-z0-9_]+\.py\Z")

    def test_each_file_keeps_to_the_rules(self):
        for path in sorted(PACKAGE.glob("*.py")):
            with self.subTest(file=path.name):
                self.assertEqual(form_faults(path.read_text(encoding="utf-8")), [])

    def test_no_two_files_draw_from_one_another(self):
        left = {path.stem: drawn_from(path) for path in PACKAGE.glob("*.py")}
        while left:
            free = [name for name, drawn in left.items() if not set(drawn) & set(left)]
            self.assertTrue(free, left)
            left = {name: drawn for name, drawn in left.items() if name not in free}

    def test_no_name_is_a_method_and_a_value(self):
        methods, values = methods_and_values([ast.parse(path.read_text()) for path in PACKAGE.glob("*.py")])
        self.assertLess({"do", "halyards", "locker", "log", "read", "again", "say"}, methods)
        self.assertLess({"flag", "wants", "flags", "at", "terms"}, values)
        self.assertEqual(methods & values, set())

    def test_no_value_of_an_object_is_called_like_one_of_pythons_own(self):
        values = methods_and_values([ast.parse(path.read_text()) for path in PACKAGE.glob("*.py")])[1]
        for kind in (str, int, list, dict, set, bytes, tuple):
            self.assertEqual(values & set(dir(kind)), set())

    def test_what_is_out_is_found(self):
        outside = [
            "import os", "from os import path", "from . import flags", "from flaglocker.flags import *", "print(1)",
            "A = 1\nA = 2", "A = [n for n in (1, 2)]", "A = 1.5", "def f(*a):\n    pass", "def f(x: int):\n    pass",
            "def f():\n    assert True", "def f(x):\n    return x / 2", "def f(x):\n    return {n for n in x}",
            "def f(x):\n    return sum(n for n in x)", "def f(x):\n    return x.format(1)", "def f(len):\n    pass",
            "def f(x):\n    return open(x)", "def f(_x):\n    pass", "# the Flag\n", "# a\tb\n", "A = '\u00e4'",
            "A = '%'", "class C:\n    a = 1", "def f():\n" + "    pass\n" * 40, "# " + "a" * 119, "\n" * 401,
            "def f(x):\n    return x is 7 and x is f", "def f(x):\n    a = b = x", "def f(x):\n    a, *b = x",
            "def f(x):\n    'some words'", "def f(x):\n    x",
            "def f():\n    try:\n        f()\n    except Exception:\n        pass",
            "from flaglocker.flags import is_flag\ndef f(is_flag):\n    pass",
            "class C:\n    pass\ndef f():\n    C = 1",
            "def f(x):\n    for y in x:\n        x.append(y)", "def f(x):\n    for y in x.items():\n        x.clear()",
            "def f(x):\n    for y in enumerate(x):\n        x[0] = y",
        ]
        for source in outside:
            with self.subTest(source=source[:60]):
                self.assertNotEqual(form_faults(source), [])


if __name__ == "__main__":
    unittest.main()
