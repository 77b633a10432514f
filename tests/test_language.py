"""Checks the package's files against those rules of LANGUAGE.md that are quickly read off a file's text and tree.

Checked in whole or in part: L1 to L8, L10, L12, L14 to L20, L22 to L25, L27. All else is left to the reader.
"""

import ast
import builtins
import pathlib
import re
import unittest

PACKAGE = pathlib.Path(__file__).resolve().parent.parent / "glasslayers"

NODES = set("""
    Module Expr Constant ImportFrom alias FunctionDef arguments arg ClassDef Return Assign AugAssign If While For
    Break Continue Pass Raise Try ExceptHandler Call keyword Name Attribute Subscript Slice List Tuple Dict Set
    ListComp comprehension BinOp UnaryOp BoolOp Compare IfExp Lambda JoinedStr FormattedValue Load Store
    Add Sub Mult FloorDiv Mod Pow LShift RShift BitOr BitXor BitAnd And Or Not USub UAdd Invert
    Eq NotEq Lt LtE Gt GtE Is IsNot In NotIn
""".split())

OWN_NAMES = set("""
    len range enumerate zip min max sum abs sorted reversed int str bool list tuple dict set frozenset isinstance
    ord repr any all divmod Exception ValueError TypeError KeyError IndexError LookupError ZeroDivisionError
    ArithmeticError OverflowError RuntimeError NotImplementedError AttributeError StopIteration
""".split())

METHODS = set("""
    append clear copy count endswith extend find get index insert isalnum isalpha isdigit islower isspace isupper
    items join keys ljust lower lstrip partition pop remove replace reverse rfind rjust rpartition rsplit rstrip
    setdefault split splitlines startswith strip update upper values zfill bit_length __init__
""".split())

UNUSED_WORDS = re.compile(
    r"\b(type|typing|typing_extensions|enum|Enum|IntEnum|StrEnum|Flag|IntFlag|Generic|Protocol|ABC|ABCMeta|namedtuple"
    r"|NamedTuple|TypedDict|TYPE_CHECKING|abstractmethod)\b|dataclass|overload|contextmanager"
)
WALKED = {"zip", "enumerate", "reversed", "range", "items", "keys", "values"}
WALKERS = {"list", "tuple", "dict", "sorted", "sum", "any", "all", "enumerate", "zip", "min", "max", "join"}
KEYWORDS = {
    "sorted": {"key", "reverse"}, "min": {"key", "default"}, "max": {"key", "default"}, "sum": {"start"},
    "enumerate": {"start"}, "zip": {"strict"},
}
TAKEN_ERRORS = {"KeyError", "ZeroDivisionError", "StopIteration"}
PLAIN_NAME = re.compile(r"[A-Za-z][A-Za-z0-9_]*|__(init|eq|repr|str|len)__")


def text_faults(text):
    rows = text.split("\n")
    faults = [f"L10 line {number} is too long" for number, row in enumerate(rows, 1) if len(row) > 120]
    if len(rows) > 401:
        faults.append("L10 the file is too long")
    if re.search(r"[^ -~\n]", text):
        faults.append("L14 a sign that is not allowed")
    if UNUSED_WORDS.search(text):
        faults.append("L17 a word that is not used")
    return faults


def name_faults(node):
    names = [getattr(node, field, None) for field in ("id", "name", "arg", "attr")]
    faults = [f"L12 the name {name}" for name in names if isinstance(name, str) and not PLAIN_NAME.fullmatch(name)]
    if isinstance(node, ast.Name) and node.id in dir(builtins):
        if node.id not in OWN_NAMES or not isinstance(node.ctx, ast.Load):
            faults.append(f"L8 the name {node.id}")
    return faults


def form_faults(node, methods):
    if type(node).__name__ not in NODES:
        return [f"L6 or L7 the form {type(node).__name__}"]
    if isinstance(node, ast.Constant) and not isinstance(node.value, (int, str, type(None))):
        return ["L7 a value that is not allowed"]
    if isinstance(node, ast.Constant) and isinstance(node.value, str) and "%" in node.value:
        return ["L27 a text with a sign that is not allowed"]
    if isinstance(node, ast.Assign) and len(node.targets) != 1:
        return ["L6 more than one target"]
    if isinstance(node, (ast.For, ast.While)) and node.orelse or isinstance(node, ast.Try) and node.finalbody:
        return ["L6 an else behind a loop, or a finally"]
    if isinstance(node, ast.ListComp) and (len(node.generators) > 1 or len(node.generators[0].ifs) > 1):
        return ["L7 a comprehension with more than one for or if"]
    if isinstance(node, ast.Compare) and [sign for sign in node.ops if isinstance(sign, (ast.Is, ast.IsNot))]:
        if not all(isinstance(side, ast.Constant) for side in node.comparators):
            return ["L20 is beside something else"]
    if isinstance(node, ast.Call) and isinstance(node.func, ast.Attribute) and node.func.attr not in methods:
        return [f"L25 the method {node.func.attr}"]
    return []


def def_faults(node):
    if not isinstance(node, (ast.FunctionDef, ast.ClassDef)):
        return []
    faults = ["L4 or L5 a decorator"] if node.decorator_list else []
    if isinstance(node, ast.ClassDef):
        if len(node.bases) > 1 or node.keywords:
            faults.append("L5 more than one base")
        return faults
    if node.end_lineno - node.lineno >= 40:
        faults.append("L10 the function is too long")
    if node.args.vararg or node.args.kwarg or node.args.kwonlyargs or node.args.posonlyargs:
        faults.append("L4 parameters that are not plain")
    return faults


def top_faults(tree):
    faults = []
    for place, node in enumerate(tree.body):
        docstring = place == 0 and isinstance(node, ast.Expr) and isinstance(node.value, ast.Constant)
        if not docstring and not isinstance(node, (ast.ImportFrom, ast.FunctionDef, ast.ClassDef, ast.Assign)):
            faults.append("L3 a statement at the top")
        if isinstance(node, ast.Assign):
            inner = [type(part) for part in ast.walk(node.value)]
            if {ast.Call, ast.BinOp, ast.ListComp, ast.Lambda, ast.IfExp, ast.Subscript} & set(inner):
                faults.append("L3 a value that is not plain")
            if len([kind for kind in inner if kind in (ast.List, ast.Dict)]) > 1:
                faults.append("L15 a list or dict within another one")
    names = top_names(tree)
    faults += [f"L15 the name {name} bound twice" for name in set(names) if names.count(name) > 1]
    return faults


def local_names(tree):
    for node in ast.walk(tree):
        if isinstance(node, ast.arg):
            yield node.arg
        elif isinstance(node, ast.ExceptHandler) and node.name:
            yield node.name
        elif isinstance(node, (ast.FunctionDef, ast.Lambda, ast.ListComp)):
            for part in ast.walk(node):
                if isinstance(part, ast.Name) and isinstance(part.ctx, ast.Store):
                    yield part.id


def scope_faults(tree):
    taken = {alias.name for node in ast.walk(tree) if isinstance(node, ast.ImportFrom) for alias in node.names}
    taken |= {node.name for node in ast.walk(tree) if isinstance(node, ast.ClassDef)} | set(dir(builtins))
    return [f"L15 the local name {name}" for name in sorted(set(local_names(tree)) & taken)]


def called(node):
    """The name by which a call calls, None for what is no call."""
    if not isinstance(node, ast.Call):
        return None
    return node.func.attr if isinstance(node.func, ast.Attribute) else getattr(node.func, "id", None)


def call_faults(tree):
    parents = {child: node for node in ast.walk(tree) for child in ast.iter_child_nodes(node)}
    faults = []
    for node in ast.walk(tree):
        name, parent = called(node), parents.get(node)
        if name in WALKED:
            looped = isinstance(parent, (ast.For, ast.comprehension)) and parent.iter is node
            if not looped and not (called(parent) in WALKERS and parent.args[:1] == [node]):
                faults.append(f"L23 {name} is kept")
        if name == "set" and not (called(parent) in ("sorted", "len") or isinstance(parent, (ast.Compare, ast.BinOp))):
            faults.append("L24 a set is kept")
        if isinstance(node, ast.Set) and not isinstance(parent, ast.Compare):
            faults.append("L24 a set is kept")
        if name in dir(builtins) or name in METHODS:
            wrong = {keyword.arg for keyword in node.keywords} - KEYWORDS.get(name, set())
            faults += [f"L22 the keyword {word}" for word in sorted(wrong)]
    return faults


def error_faults(tree):
    own = {alias.name for node in ast.walk(tree) if isinstance(node, ast.ImportFrom)
           for alias in node.names if node.module == "glasslayers.errors"}
    faults = []
    for node in ast.walk(tree):
        if isinstance(node, ast.ExceptHandler) and getattr(node.type, "id", None) not in own | TAKEN_ERRORS:
            faults.append("L19 an error that is not taken")
        if isinstance(node, ast.Raise) and called(node.exc) not in own:
            faults.append("L19 an error that is not made on the spot")
    return faults


def class_faults(trees):
    """L18, over all files: no name is a method in one class and a value in another."""
    classes = [node for tree in trees for node in ast.walk(tree) if isinstance(node, ast.ClassDef)]
    methods = {part.name for node in classes for part in node.body if isinstance(part, ast.FunctionDef)}
    values = {part.attr for node in classes for part in ast.walk(node)
              if isinstance(part, ast.Attribute) and isinstance(part.ctx, ast.Store)}
    return [f"L18 the name {name}" for name in sorted(methods & values)]


def file_faults(text, methods, defined):
    """`defined` has the names at the top of each module, by the module's full name."""
    tree = ast.parse(text)
    faults = text_faults(text) + top_faults(tree) + scope_faults(tree) + call_faults(tree) + error_faults(tree)
    for node in ast.walk(tree):
        found = name_faults(node) + form_faults(node, methods) + def_faults(node)
        if isinstance(node, ast.ImportFrom):
            known = defined.get(node.module, []) if node.level == 0 else []
            found += [f"L16 the import {alias.name}" for alias in node.names if alias.name not in known]
        faults += found
    return faults


def top_names(tree):
    names = [node.name for node in tree.body if isinstance(node, (ast.FunctionDef, ast.ClassDef))]
    return names + [node.targets[0].id for node in tree.body if isinstance(node, ast.Assign)]


class PackageTest(unittest.TestCase):
    def setUp(self):
        self.texts = {path: path.read_text("utf-8") for path in sorted(PACKAGE.glob("*.py"))}
        trees = {path: ast.parse(text) for path, text in self.texts.items()}
        self.defined = {f"glasslayers.{path.stem}": top_names(tree) for path, tree in trees.items()}
        self.methods = set(METHODS)
        for tree in trees.values():
            for node in ast.walk(tree):
                if isinstance(node, ast.ClassDef):
                    self.methods.update([part.name for part in node.body if isinstance(part, ast.FunctionDef)])

    def test_the_folder_holds_plain_files_alone(self):
        self.assertIn(PACKAGE / "__init__.py", self.texts)
        for path in PACKAGE.iterdir():
            if path.name != "__pycache__":
                self.assertRegex(path.name, r"\A(__init__|__main__|[a-z][a-z0-9_]*)\.py\Z")
                self.assertFalse(path.stem.startswith("test"))
                self.assertNotIn(path.stem, dir(builtins))

    def test_each_file_keeps_to_the_rules(self):
        for path, text in self.texts.items():
            with self.subTest(path=path.name):
                self.assertEqual(file_faults(text, self.methods, self.defined), [])

    def test_the_classes_keep_to_the_rules(self):
        self.assertEqual(class_faults([ast.parse(text) for text in self.texts.values()]), [])

    def test_no_two_files_draw_from_one_another(self):
        drawn = {}
        for path, text in self.texts.items():
            rows = [node for node in ast.walk(ast.parse(text)) if isinstance(node, ast.ImportFrom)]
            drawn[f"glasslayers.{path.stem}"] = {node.module for node in rows}
        while drawn:
            free = [module for module, others in drawn.items() if not others & set(drawn)]
            self.assertNotEqual(free, [], sorted(drawn))
            drawn = {module: others for module, others in drawn.items() if module not in free}


class CheckTest(unittest.TestCase):
    def test_a_method_and_a_value_of_one_name(self):
        one = "class A:\n    def lay(self):\n        pass\n"
        other = "class B:\n    def f(self):\n        self.NAME = 1\n"
        self.assertNotEqual(class_faults([ast.parse(one + other.replace("NAME", "lay"))]), [])
        self.assertEqual(class_faults([ast.parse(one + other.replace("NAME", "kept"))]), [])

    def test_plain_code_has_no_faults(self):
        text = '"""Words."""\nfrom glasslayers.ways import above\n\n\ndef f(way, k=1):\n    return [above(way), len("a")]\n'
        self.assertEqual(file_faults(text, METHODS, {"glasslayers.ways": ["above"]}), [])

    def test_each_fault_is_seen(self):
        samples = {
            "import os\n": "L6", "from glasslayers.ways import far\n": "L16", "from .ways import above\n": "L16",
            "x = 1 / 2\n": "L6", "x = 1.5\n": "L7", "x = y = 1\n": "L6", "_x = 1\n": "L12", "x = open\n": "L8",
            "len = 1\n": "L8", "x = [a for a in b for c in d]\n": "L7", "x = a is b\n": "L20", "x.sort()\n": "L25",
            "def f(*a):\n    pass\n": "L4", "@f\ndef g():\n    pass\n": "L4", "class A(B, C):\n    pass\n": "L5",
            "x = " + "1" * 120 + "\n": "L10", "x = 1\n" * 401: "L10", "# \t\n": "L14", "# a type\n": "L17",
            "def f():\n" + "    pass\n" * 40: "L10", "for a in b:\n    pass\nelse:\n    pass\n": "L6",
            "x = 'a" + chr(37) + "'\n": "L27", "with a:\n    pass\n": "L6", "x = {a: 1 for a in b}\n": "L6",
            "f()\n": "L3", "x = f()\n": "L3", "x = [[1]]\n": "L15", "x = 1\nx = 2\n": "L15",
            "def f(len):\n    pass\n": "L15", "def f():\n    return [id for id in x]\n": "L15",
            "from glasslayers.ways import above\n\n\ndef f(above):\n    pass\n": "L15",
            "def f(a):\n    b = zip(a)\n": "L23", "def f(a):\n    return a.items()\n": "L23",
            "def f(a):\n    return set(a)\n": "L24", "def f(a):\n    return {1, a}\n": "L24",
            "def f(a):\n    return a.split(sep=1)\n": "L22", "def f():\n    raise ValueError(1)\n": "L19",
            "def f():\n    try:\n        pass\n    except Exception:\n        pass\n": "L19",
        }
        for text, rule in samples.items():
            with self.subTest(text=text[:60]):
                faults = file_faults(text, METHODS, {"glasslayers.ways": ["above"]})
                self.assertNotEqual([fault for fault in faults if fault.startswith(rule + " ")], [])


if __name__ == "__main__":
    unittest.main()
