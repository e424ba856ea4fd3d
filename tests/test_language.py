"""Many rules of LANGUAGE.md, asked of every file of the package.

Not asked: L9, L11, L13, L18, L19, L23, L26, L28, and parts of the others.
"""

import ast
import builtins
import os
import re
import unittest

TOP = os.path.dirname(os.path.dirname(os.path.abspath(__file__)))
PACKAGE = os.path.join(TOP, "sharings")

OWN_NAMES = set("""len range enumerate zip min max sum abs sorted reversed int str bool list tuple dict set frozenset
    isinstance ord repr any all divmod Exception ValueError TypeError KeyError IndexError LookupError
    ZeroDivisionError ArithmeticError OverflowError RuntimeError NotImplementedError AttributeError
    StopIteration""".split())
METHODS = set("""append clear copy count endswith extend find get index insert isalnum isalpha isdigit islower isspace
    isupper items join keys ljust lower lstrip partition pop remove replace reverse rfind rjust rpartition rsplit rstrip
    setdefault split splitlines startswith strip update upper values zfill bit_length""".split())
NO_WORDS = set("""type typing typing_extensions enum Enum IntEnum StrEnum Flag IntFlag Generic Protocol ABC ABCMeta
    namedtuple NamedTuple TypedDict TYPE_CHECKING abstractmethod""".split())
NO_PARTS = ("dataclass", "overload", "contextmanager")
NO_NAMES = set("""register mro elements open input version_info with_traceback add_note attrgetter breakpoint builtins
    compile copyright credits delattr dir eval exec exit gc getattr globals hasattr help id importlib license locals
    methodcaller os quit setattr super type vars sys""".split())
NO_FILES = NO_WORDS | set("test tests testing site conftest sitecustomize usercustomize".split()) | set(dir(builtins))
NODES = (ast.Module, ast.FunctionDef, ast.ClassDef, ast.arguments, ast.arg, ast.ImportFrom, ast.alias, ast.Assign,
         ast.AugAssign, ast.If, ast.While, ast.For, ast.Return, ast.Break, ast.Continue, ast.Pass, ast.Raise, ast.Try,
         ast.ExceptHandler, ast.Expr, ast.Constant, ast.List, ast.Tuple, ast.Dict, ast.Name, ast.Attribute,
         ast.Subscript, ast.Slice, ast.Call, ast.keyword, ast.BinOp, ast.UnaryOp, ast.BoolOp, ast.Compare, ast.IfExp,
         ast.ListComp, ast.comprehension, ast.Lambda, ast.JoinedStr, ast.FormattedValue, ast.expr_context,
         ast.operator, ast.unaryop, ast.boolop, ast.cmpop)
NO_NODES = (ast.Div, ast.MatMult)
KEYWORDS = {"sorted": ("key", "reverse"), "min": ("key", "default"), "max": ("key", "default"), "sum": ("start",),
            "enumerate": ("start",), "zip": ("strict",)}


def text_faults(text):
    rows = text.split("\n")
    if len(rows) > 401:
        yield "L10 file"
    for number, row in enumerate(rows, 1):
        if len(row) > 120:
            yield f"L10 row {number}"
        if re.search(r"[^ -~]", row):
            yield f"L14 sign, row {number}"
        words = set(re.findall(r"\w+", row))
        if words & NO_WORDS or any(part in row for part in NO_PARTS):
            yield f"L17 word, row {number}"


def plain(value):
    if isinstance(value, (ast.List, ast.Tuple)):
        return all(plain(entry) for entry in value.elts)
    if isinstance(value, ast.Dict):
        return all(plain(entry) for entry in value.keys + value.values)
    if isinstance(value, ast.UnaryOp):
        return plain(value.operand)
    return isinstance(value, (ast.Constant, ast.Name))


def top_faults(tree):
    bound = []
    for place, row in enumerate(tree.body):
        if isinstance(row, (ast.FunctionDef, ast.ClassDef)):
            bound.append(row.name)
        elif isinstance(row, ast.ImportFrom):
            bound.extend(alias.asname or alias.name for alias in row.names)
        elif isinstance(row, ast.Assign) and isinstance(row.targets[0], ast.Name) and plain(row.value):
            bound.append(row.targets[0].id)
        elif not (place == 0 and isinstance(row, ast.Expr) and isinstance(row.value, ast.Constant)):
            yield f"L3 row {row.lineno}"
    if len(bound) != len(set(bound)):
        yield "L15 a name bound twice"


def bound_names(tree):
    """The names that functions and their insides bind, each with its row."""
    for node in ast.walk(tree):
        if isinstance(node, ast.arg):
            yield node.arg, node.lineno
        elif isinstance(node, ast.Name) and isinstance(node.ctx, ast.Store):
            yield node.id, node.lineno
        elif isinstance(node, (ast.FunctionDef, ast.ClassDef)):
            yield node.name, node.lineno


def name_faults(tree):
    imports = {alias.name for row in tree.body if isinstance(row, ast.ImportFrom) for alias in row.names}
    classes = {row.name for row in tree.body if isinstance(row, ast.ClassDef)}
    for name, row in bound_names(tree):
        if not re.fullmatch(r"[A-Za-z][A-Za-z0-9_]*", name) and name != "__init__":
            yield f"L12 {name}, row {row}"
        if name in dir(builtins) or name in NO_NAMES or name in imports:
            yield f"L15 {name}, row {row}"
    for name, row in [pair for row in tree.body if isinstance(row, ast.FunctionDef) for pair in bound_names(row)]:
        if name in classes:
            yield f"L15 {name}, row {row}"
    for node in ast.walk(tree):
        if isinstance(node, ast.Name) and (
                node.id in NO_NAMES or node.id in dir(builtins) and node.id not in OWN_NAMES):
            yield f"L8 {node.id}, row {node.lineno}"


def function_faults(node):
    given = node.args
    if given.vararg or given.kwarg or given.kwonlyargs or given.posonlyargs or node.decorator_list:
        yield "L4"
    if node.returns or any(arg.annotation for arg in given.args):
        yield "L21"
    if node.end_lineno - node.lineno >= 40:
        yield "L10"


def class_faults(node):
    if len(node.bases) > 1 or node.keywords or node.decorator_list:
        yield "L5"
    if not all(isinstance(row, (ast.Pass, ast.FunctionDef)) for row in node.body):
        yield "L5"


def call_faults(node):
    name = node.func.id if isinstance(node.func, ast.Name) else None
    if isinstance(node.func, ast.Attribute) and node.func.attr not in METHODS:
        yield "L25"
    if (name in OWN_NAMES or name is None) and any(word.arg not in KEYWORDS.get(name, ()) for word in node.keywords):
        yield "L22"


def is_set(node):
    if isinstance(node, ast.BinOp):
        return is_set(node.left) or is_set(node.right)
    return isinstance(node, ast.Call) and isinstance(node.func, ast.Name) and node.func.id == "set"


def set_faults(node):
    """Sets that stand elsewhere than straight within len or sorted, or beside a comparison."""
    if isinstance(node, ast.Compare) or isinstance(node, ast.BinOp) and is_set(node):
        return
    within = isinstance(node, ast.Call) and isinstance(node.func, ast.Name) and node.func.id in ("len", "sorted")
    if not within and any(is_set(child) for child in ast.iter_child_nodes(node)):
        yield "L24"


def value_faults(node):
    if isinstance(node, ast.Constant):
        if isinstance(node.value, (float, complex, bytes)) or node.value is ...:
            yield "L7"
        if isinstance(node.value, str) and "%" in node.value:
            yield "L27"
    if isinstance(node, ast.BinOp) and isinstance(node.op, ast.Pow) and not isinstance(node.right, ast.Constant):
        yield "L27"
    if isinstance(node, ast.Compare) and any(isinstance(op, (ast.Is, ast.IsNot)) for op in node.ops):
        if not any(isinstance(side, ast.Constant) for side in node.comparators):
            yield "L20"
    if isinstance(node, ast.ListComp) and (len(node.generators) > 1 or len(node.generators[0].ifs) > 1):
        yield "L7"


def node_faults(node):
    if not isinstance(node, NODES) or isinstance(node, NO_NODES):
        yield "L6 or L7"
    if isinstance(node, ast.FunctionDef):
        yield from function_faults(node)
    if isinstance(node, ast.ClassDef):
        yield from class_faults(node)
    if isinstance(node, ast.Call):
        yield from call_faults(node)
    if isinstance(node, ast.Assign) and len(node.targets) > 1:
        yield "L6"
    if isinstance(node, (ast.For, ast.While)) and node.orelse or isinstance(node, ast.Try) and node.finalbody:
        yield "L6"
    if isinstance(node, ast.Expr) and not isinstance(node.value, (ast.Call, ast.Constant)):
        yield "L6"
    if isinstance(node, ast.ImportFrom) and (node.level or not node.module.startswith("sharings.")):
        yield "L2"
    if isinstance(node, ast.alias) and (node.name == "*" or node.asname):
        yield "L2"
    yield from set_faults(node)
    yield from value_faults(node)


def faults(text):
    tree = ast.parse(text)
    found = list(text_faults(text)) + list(top_faults(tree)) + list(name_faults(tree))
    for node in ast.walk(tree):
        found.extend(f"{fault}: row {getattr(node, 'lineno', '?')}" for fault in node_faults(node))
    return found


def package_texts():
    texts = {}
    for name in sorted(os.listdir(PACKAGE)):
        if name.endswith(".py"):
            with open(os.path.join(PACKAGE, name), encoding="utf-8", newline="") as file:
                texts[name[:-3]] = file.read()
    return texts


def drawn_names(text):
    """Each name a file draws from another one, with the name of that file."""
    rows = [row for row in ast.parse(text).body if isinstance(row, ast.ImportFrom)]
    return [(row.module.partition(".")[2], alias.name) for row in rows for alias in row.names]


class Language(unittest.TestCase):
    def test_files(self):
        for name in os.listdir(PACKAGE):
            with self.subTest(name):
                if name != "__pycache__" and name != "__init__.py":
                    self.assertRegex(name, r"^[a-z][a-z0-9_]*\.py$")
                    self.assertNotIn(name[:-3], NO_FILES)
        self.assertIn("__init__", package_texts())

    def test_rules(self):
        for name, text in package_texts().items():
            with self.subTest(name):
                self.assertEqual(faults(text), [])

    def test_names_are_drawn_from_the_file_that_defines_them(self):
        texts = package_texts()
        for name, text in texts.items():
            for source, drawn in drawn_names(text):
                with self.subTest(name=name, drawn=drawn):
                    defined = [row.name if isinstance(row, (ast.FunctionDef, ast.ClassDef)) else row.targets[0].id
                               for row in ast.parse(texts[source]).body
                               if isinstance(row, (ast.FunctionDef, ast.ClassDef, ast.Assign))]
                    self.assertIn(drawn, defined)

    def test_no_two_files_draw_from_one_another(self):
        # Whatever is drawn from a file of the package is drawn from its __init__ too.
        drawn = {name: {source for source, _ in drawn_names(text)} for name, text in package_texts().items()}
        drawn = {name: sources | {"__init__"} if sources else sources for name, sources in drawn.items()}
        while drawn:
            free = [name for name, sources in drawn.items() if not sources & set(drawn)]
            self.assertTrue(free, drawn)
            drawn = {name: sources for name, sources in drawn.items() if name not in free}

    def test_the_look_at_the_rules_finds_faults(self):
        within = ["x = 1 / 2", "x = 0.5", "x = {1, 2}", "x = set(a)", "x = set(a) - set(a)", "x = y = a",
                  "for x in set(a):\n        pass", "assert a", "yield a", "x = {k: 1 for k in a}",
                  "x = (k for k in a)", "x = [k for k in a for m in a]", "a.sort()", "x = 2 ** a", "return a is x",
                  "len = 1", "x = map(a, a)", "with a:\n        pass", "x = '%'", "x = 'type'",
                  "x = 1 # " + "long " * 24, "del a[0]", "_x = 1", "x = f(*a)", "import sharings",
                  "x = sorted(a, other=1)", "x = b''", "if (x := a):\n        pass",
                  "while a:\n        pass\n    else:\n        pass", "x = list(a, key=1)", "global x", "print(a)"]
        for row in within:
            with self.subTest(row):
                self.assertNotEqual(faults(f"def f(a):\n    {row}\n"), [])
        tops = ["import os\n", "from os import path\n", "from .marks import sizes\n", "from sharings.marks import *\n",
                "x = len([])\n", "print(1)\n", "x = 1\nx = 2\n", "def f(*a):\n    pass\n", "def f(a: int):\n    pass\n",
                "class A:\n    x = 1\n", "class A(B, C):\n    pass\n", "x = 1\t\n", "x = 'caf\u00e9'\n",
                "def f():\n" + "    pass\n" * 40, "\n" * 401]
        for text in tops:
            with self.subTest(text):
                self.assertNotEqual(faults(text), [])
        self.assertEqual(faults("def f(a):\n    x = len(set(a)) + len(set(a) - set(a))\n    return x in set(a)\n"), [])


if __name__ == "__main__":
    unittest.main()
