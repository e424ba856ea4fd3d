"""The rules of LANGUAGE.md, asked of every file of the package.

Where the program needs less than a rule allows, only that passes, and the finer words of the rule don't come in:
no `try`, `lambda`, def within a def, method, value of an object, annotation, `isinstance` or `__main__`; a file's top
holds whole numbers and texts alone; no function comes back to itself by its calls.
What can't be seen in the text is not asked: whether a list that is walked is changed by a call that it is handed to.
"""

import ast
import builtins
import os
import re
import unittest

TOP = os.path.dirname(os.path.dirname(os.path.abspath(__file__)))
PACKAGE = os.path.join(TOP, "sharings")

CALLED = set("""len range enumerate zip min max sum abs sorted reversed int str bool list tuple dict set ord repr any
    all divmod""".split())
BASES = set("""Exception ValueError TypeError KeyError IndexError LookupError ZeroDivisionError ArithmeticError
    OverflowError RuntimeError NotImplementedError""".split())
METHODS = set("""append clear copy count endswith extend find get index insert isalnum isalpha isdigit islower isspace
    isupper items join keys ljust lower lstrip partition pop remove replace reverse rfind rjust rpartition rsplit rstrip
    setdefault split splitlines startswith strip update upper values zfill bit_length""".split())
CHANGING = set("append clear extend insert pop remove reverse setdefault update".split())
NO_WORDS = set("""type typing typing_extensions enum Enum IntEnum StrEnum Flag IntFlag Generic Protocol ABC ABCMeta
    namedtuple NamedTuple TypedDict TYPE_CHECKING abstractmethod""".split())
NO_PARTS = ("dataclass", "overload", "contextmanager")
NO_NAMES = set("""register mro elements open input version_info with_traceback add_note attrgetter breakpoint builtins
    compile copyright credits delattr dir eval exec exit gc getattr globals hasattr help id importlib license locals
    methodcaller os quit setattr super type vars sys""".split())
NO_FILES = NO_WORDS | set("test tests testing site conftest sitecustomize usercustomize".split()) | set(dir(builtins))
NODES = (ast.Module, ast.FunctionDef, ast.ClassDef, ast.arguments, ast.arg, ast.ImportFrom, ast.alias, ast.Assign,
         ast.AugAssign, ast.If, ast.While, ast.For, ast.Return, ast.Break, ast.Continue, ast.Pass, ast.Raise, ast.Expr,
         ast.Constant, ast.List, ast.Tuple, ast.Dict, ast.Name, ast.Attribute, ast.Subscript, ast.Slice, ast.Call,
         ast.keyword, ast.BinOp, ast.UnaryOp, ast.BoolOp, ast.Compare, ast.IfExp, ast.ListComp, ast.comprehension,
         ast.JoinedStr, ast.FormattedValue, ast.expr_context, ast.operator, ast.unaryop, ast.boolop, ast.cmpop)
NO_NODES = (ast.Div, ast.MatMult)
KEYWORDS = {"sorted": ("key", "reverse"), "min": ("key", "default"), "max": ("key", "default"), "sum": ("start",),
            "enumerate": ("start",), "zip": ("strict",)}
KEYS = ("len", "int", "str", "abs", "sum", "min", "max", "tuple")
WALKED = ("zip", "enumerate", "reversed", "range")
VIEWS = ("items", "keys", "values")
WALKERS = ("list", "tuple", "dict", "sorted", "sum", "any", "all", "enumerate", "zip")


def called_name(node):
    """The plain name that a call calls, or None."""
    return node.func.id if isinstance(node, ast.Call) and isinstance(node.func, ast.Name) else None


def called_method(node):
    return node.func.attr if isinstance(node, ast.Call) and isinstance(node.func, ast.Attribute) else None


def text_faults(text):
    rows = text.split("\n")
    if len(rows) > 401:
        yield "L10 file"
    for number, row in enumerate(rows, 1):
        if len(row) > 120:
            yield f"L10 row {number}"
        if re.search(r"[^ -~]", row):
            yield f"L14 sign, row {number}"
        words = set(re.findall(r"\w+", row))
        if words & NO_WORDS or any(part in row for part in NO_PARTS):
            yield f"L17 word, row {number}"
    for escaped in re.findall(r"\\(.)", text, re.DOTALL):
        if escaped not in "nt\\'\"":
            yield f"L27 escape {escaped!r}"


def top_faults(tree):
    bound = []
    for place, row in enumerate(tree.body):
        if isinstance(row, (ast.FunctionDef, ast.ClassDef)):
            bound.append(row.name)
        elif isinstance(row, ast.ImportFrom):
            bound.extend(alias.asname or alias.name for alias in row.names)
            if not all(isinstance(ahead, (ast.Expr, ast.ImportFrom)) for ahead in tree.body[:place]):
                yield f"L2 row {row.lineno}"
        elif isinstance(row, ast.Assign) and isinstance(row.targets[0], ast.Name):
            bound.append(row.targets[0].id)
            if not isinstance(row.value, ast.Constant):
                yield f"L3 row {row.lineno}"
        elif not (place == 0 and isinstance(row, ast.Expr) and isinstance(row.value, ast.Constant)):
            yield f"L3 row {row.lineno}"
    if len(bound) != len(set(bound)):
        yield "L15 a name bound twice"


def bound_names(tree):
    """The names that a tree binds anywhere, but those of imports, each with its row."""
    for node in ast.walk(tree):
        if isinstance(node, ast.arg):
            yield node.arg, node.lineno
        elif isinstance(node, ast.Name) and isinstance(node.ctx, ast.Store):
            yield node.id, node.lineno
        elif isinstance(node, (ast.FunctionDef, ast.ClassDef)):
            yield node.name, node.lineno


def name_faults(tree):
    imports = {alias.name for row in tree.body if isinstance(row, ast.ImportFrom) for alias in row.names}
    classes = {row.name for row in tree.body if isinstance(row, ast.ClassDef)}
    for name, row in [(name, "of an import") for name in imports] + list(bound_names(tree)):
        if not re.fullmatch(r"[A-Za-z][A-Za-z0-9_]*", name):
            yield f"L12 {name}, row {row}"
        if name in dir(builtins) or name in NO_NAMES:
            yield f"L15 {name}, row {row}"
    for name, row in bound_names(tree):
        if name in imports:
            yield f"L15 {name}, row {row}"
    for name, row in [pair for row in tree.body if isinstance(row, ast.FunctionDef) for pair in bound_names(row)]:
        if name in classes:
            yield f"L15 {name}, row {row}"


def function_faults(node, parent):
    given = node.args
    if given.vararg or given.kwarg or given.kwonlyargs or given.posonlyargs or node.decorator_list:
        yield "L4"
    if not all(isinstance(default, ast.Constant) for default in given.defaults):
        yield "L4"
    if not isinstance(parent, ast.Module):
        yield "L4, L5 or L28: a def within a def or a class"
    if node.returns or any(arg.annotation for arg in given.args):
        yield "L21"
    if node.end_lineno - node.lineno >= 40:
        yield "L10"


def class_faults(node, parent):
    if len(node.bases) > 1 or node.keywords or node.decorator_list or not isinstance(parent, ast.Module):
        yield "L5"
    if not all(isinstance(row, ast.Pass) for row in node.body):
        yield "L5, L18, L26 or L28: a class with a body"


def use_faults(node, parents):
    """Names of Python's own, and those of classes, that stand where they don't belong."""
    parent = parents[node]
    if node.id in NO_NAMES or node.id in dir(builtins) and node.id not in CALLED | BASES:
        yield f"L8 {node.id}"
    if node.id in CALLED and isinstance(node.ctx, ast.Load) and called_name(parent) != node.id:
        if not (isinstance(parent, ast.keyword) and parent.arg == "key" and node.id in KEYS):
            yield f"L22 {node.id}"
    # The package's classes are its refusals alone, and no other name of it begins so.
    if re.match("[A-Z][a-z]", node.id):
        raised = called_name(parent) == node.id and isinstance(parents[parent], ast.Raise)
        if not raised and not isinstance(parent, ast.ClassDef):
            yield f"L18 {node.id}"


def raise_faults(node):
    if not re.match("[A-Z][a-z]", called_name(node.exc) or "") or node.cause or called_name(node.exc) in BASES:
        yield "L19"


def call_faults(node):
    name = called_name(node)
    if called_method(node) is not None and called_method(node) not in METHODS:
        yield "L25"
    for word in node.keywords:
        if (name in CALLED or name is None) and word.arg not in KEYWORDS.get(name, ()):
            yield "L22"
        if word.arg in ("reverse", "strict") and not (
                isinstance(word.value, ast.Constant) and isinstance(word.value.value, bool)):
            yield "L22"
        if word.arg is None:
            yield "L7"


def is_walked_at_once(node, parent):
    if isinstance(parent, (ast.For, ast.comprehension)):
        return parent.iter is node
    if not isinstance(parent, ast.Call) or not parent.args or parent.args[0] is not node:
        return False
    if called_method(parent) == "join":
        return isinstance(parent.func.value, ast.Constant)
    return called_name(parent) in WALKERS or called_name(parent) in ("min", "max") and len(parent.args) == 1


def walked_names(node):
    """The names of what a loop walks, itself or through what only hands its entries on."""
    if isinstance(node, ast.Name):
        return {node.id}
    if called_name(node) in WALKED:
        return set().union(*[walked_names(given) for given in node.args])
    return walked_names(node.func.value) if called_method(node) in VIEWS else set()


def loop_faults(node):
    names = walked_names(node.iter)
    for inner in [inner for row in node.body for inner in ast.walk(row)]:
        changed = None
        if called_method(inner) in CHANGING:
            changed = inner.func.value
        elif isinstance(inner, ast.Subscript) and isinstance(inner.ctx, ast.Store):
            changed = inner.value
        elif isinstance(inner, ast.AugAssign):
            changed = inner.target
        if isinstance(changed, ast.Name) and changed.id in names:
            yield f"L23 {changed.id}"


def is_set(node):
    if isinstance(node, ast.BinOp):
        return is_set(node.left) or is_set(node.right)
    return called_name(node) == "set"


def set_faults(node, parent):
    """Of a set, or several with a sign between: whether it stands where it may."""
    if isinstance(node, ast.BinOp):
        if not (is_set(node.left) and is_set(node.right)):
            yield "L24"
        if not isinstance(node.op, (ast.Sub, ast.BitAnd, ast.BitOr, ast.BitXor)):
            yield "L24"
    if isinstance(parent, ast.BinOp):
        return
    if isinstance(parent, ast.Compare) and len(parent.ops) == 1:
        if isinstance(parent.ops[0], (ast.In, ast.NotIn)) and parent.left is not node:
            return
        if isinstance(parent.ops[0], (ast.Eq, ast.NotEq)) and is_set(parent.left) and is_set(parent.comparators[0]):
            return
    if called_name(parent) not in ("len", "sorted") or parent.keywords or parent.args != [node]:
        yield "L24"


def value_faults(node):
    if isinstance(node, ast.Constant):
        if isinstance(node.value, (float, complex, bytes)) or node.value is ...:
            yield "L7"
        if isinstance(node.value, str) and "%" in node.value:
            yield "L27"
    if isinstance(node, ast.FormattedValue):
        if not isinstance(node.value, ast.Name) or node.format_spec or node.conversion not in (-1, ord("r")):
            yield "L7"
    if isinstance(node, ast.BinOp) and isinstance(node.op, ast.Pow):
        if not isinstance(node.right, ast.Constant) or node.right.value not in range(65):
            yield "L27"
    if isinstance(node, ast.Compare) and any(isinstance(op, (ast.Is, ast.IsNot)) for op in node.ops):
        sides = [node.left] + node.comparators
        if not any(isinstance(side, ast.Constant) and str(side.value) in ("None", "True", "False") for side in sides):
            yield "L20"
    if isinstance(node, ast.ListComp) and (len(node.generators) > 1 or len(node.generators[0].ifs) > 1):
        yield "L7"


def statement_faults(node, parent):
    if isinstance(node, ast.Assign):
        if len(node.targets) > 1 or not isinstance(node.targets[0], (ast.Name, ast.Subscript)):
            yield "L6"
    if isinstance(node, (ast.For, ast.While)) and node.orelse:
        yield "L6"
    if isinstance(node, ast.Expr) and not isinstance(node.value, ast.Call) and not isinstance(parent, ast.Module):
        yield "L6"
    if isinstance(node, ast.ImportFrom):
        if node.level or not node.module.startswith("sharings.") or not isinstance(parent, ast.Module):
            yield "L2"
    if isinstance(node, ast.alias) and (node.name == "*" or node.asname):
        yield "L2"


def node_faults(node, parents):
    parent = parents.get(node)
    if not isinstance(node, NODES) or isinstance(node, NO_NODES):
        yield f"{type(node).__name__}: L6, L7, L13, L19 or L21"
    if isinstance(node, ast.FunctionDef):
        yield from function_faults(node, parent)
    if isinstance(node, ast.ClassDef):
        yield from class_faults(node, parent)
    if isinstance(node, ast.Name):
        yield from use_faults(node, parents)
    if isinstance(node, ast.Raise):
        yield from raise_faults(node)
    if isinstance(node, ast.Attribute) and not (isinstance(parent, ast.Call) and parent.func is node):
        yield "L18 or L25"
    if isinstance(node, ast.Call):
        yield from call_faults(node)
    if (called_name(node) in WALKED or called_method(node) in VIEWS) and not is_walked_at_once(node, parent):
        yield "L23"
    if isinstance(node, ast.For):
        yield from loop_faults(node)
    if is_set(node):
        yield from set_faults(node, parent)
    yield from statement_faults(node, parent)
    yield from value_faults(node)


def faults(text):
    tree = ast.parse(text)
    parents = {child: node for node in ast.walk(tree) for child in ast.iter_child_nodes(node)}
    found = list(text_faults(text)) + list(top_faults(tree)) + list(name_faults(tree))
    for node in ast.walk(tree):
        found.extend(f"{fault}: row {getattr(node, 'lineno', '?')}" for fault in node_faults(node, parents))
    return found


def file_faults(names):
    """L1 and L14: what lies in the package's folder under a name that may not be there."""
    for name in names:
        if name != "__init__.py" and (not re.fullmatch(r"[a-z][a-z0-9_]*\.py", name) or name[:-3] in NO_FILES
                                      or name.startswith("test_")):
            yield name
    if "__init__.py" not in names:
        yield "no __init__.py"


def package_texts():
    texts = {}
    for name in sorted(os.listdir(PACKAGE)):
        if name.endswith(".py"):
            with open(os.path.join(PACKAGE, name), encoding="utf-8", newline="") as file:
                texts[name[:-3]] = file.read()
    return texts


def drawn_names(text):
    """Each name a file draws from another one, with the name of that file."""
    rows = [row for row in ast.parse(text).body if isinstance(row, ast.ImportFrom)]
    return [(row.module.partition(".")[2], alias.name) for row in rows for alias in row.names]


def defined_names(text):
    rows = ast.parse(text).body
    return [row.name for row in rows if isinstance(row, (ast.FunctionDef, ast.ClassDef))] + [
        row.targets[0].id for row in rows if isinstance(row, ast.Assign)]


def drawn_round(drawn):
    """Of a dict that tells for each name which ones it draws from: those that lead round to themselves, in any steps,
    and those that lead to such."""
    while True:
        ends = [name for name, sources in drawn.items() if not sources & set(drawn)]
        if not ends:
            return sorted(drawn)
        drawn = {name: sources for name, sources in drawn.items() if name not in ends}


def files_drawn(texts):
    # Whatever is drawn from a file of the package is drawn from its __init__ too.
    drawn = {name: {source for source, _ in drawn_names(text)} for name, text in texts.items()}
    return {name: sources | {"__init__"} if sources else sources for name, sources in drawn.items()}


def functions_called(texts):
    """For each function, the names that it calls; a name is one function's alone over the package."""
    called = {}
    for text in texts.values():
        for row in ast.parse(text).body:
            if isinstance(row, ast.FunctionDef):
                called[row.name] = {called_name(node) for node in ast.walk(row)} - {None}
    return called


# Rows of a def, each with a fault, by the rule that it breaks.
WRONG_ROWS = {
    "L2": ["import sharings", "from sharings.marks import sizes"],
    "L4": ["def g():\n        pass", "x = lambda: a"],
    "L6": ["assert a", "yield a", "x = y = a", "with a:\n        pass", "del a[0]", "global x", "a", "'words'",
           "while a:\n        pass\n    else:\n        pass", "for x in a:\n        pass\n    else:\n        pass",
           "match a:\n        case 1:\n            pass", "x, y = a"],
    "L7": ["x = 1 / 2", "x = 0.5", "x = b''", "x = {k: 1 for k in a}", "x = (k for k in a)", "x = {k for k in a}",
           "x = [k for k in a for m in a]", "x = [k for k in a if k if a]", "if (x := a):\n        pass", "x = f(*a)",
           "x = f(**a)", "x = a @ a", "x = ...", "x = f'{a + 1}'", "x = f'{a:3}'", "x = f'{a!s}'", "x = [*a]"],
    "L8": ["x = map(a, a)", "x = iter(a)", "x = a.format(1)", "x = __name__", "x = hash(a)", "x = isinstance(a, int)"],
    "L9": ["print(a)", "x = open(a)", "x = input()"],
    "L10": ["x = 1 # " + "long " * 24],
    "L11": ["for x in set(a):\n        pass", "x = set(a).pop()"],
    "L12": ["_x = 1", "_ = a", "for _ in a:\n        pass", "__x = 1"],
    "L13": ["x = a in {1, 2, 3}", "x = {1, 2}"],
    "L15": ["len = 1", "x = [min for min in a]", "hash = a", "class A:\n        pass"],
    "L17": ["x = 'type'", "x = 1 # enum", "x = 'a dataclasses b'", "x = vars(a)", "x = os", "x = a.register()"],
    "L18": ["a.x = 1", "x = ValueError", "x = [NoThing]", "f(NoThing)", "x = a.y"],
    "L19": ["try:\n        pass\n    except ValueError:\n        pass", "raise a", "raise", "raise NoThing",
            "raise NoThing('x') from a", "raise ValueError('x')"],
    "L20": ["return a is x", "return a is not 1", "return a is x is y"],
    "L21": ["x: int = 1"],
    "L22": ["x = len", "x = [len]", "x = f(sorted)", "x = sorted(a, other=1)", "x = list(a, key=1)",
            "x = sorted(a, key=list)", "x = sorted(a, reverse=a)", "x = zip(a, a, strict=a)", "x = a.split(sep=' ')"],
    "L23": ["x = zip(a, a)", "return range(3)", "x = a.items()", "x = len(range(a))", "x = max(range(3), a)",
            "x = a.join(range(3))", "x = f(reversed(a))", "x = list(a, range(3))", "x = range(3)[0]",
            "for k in a:\n        a.append(k)", "for k in a:\n        a[0] = k", "for k in a:\n        a += [k]",
            "for k, m in enumerate(a):\n        a.pop()", "for k in reversed(a):\n        a[k] += 1",
            "for k, m in a.items():\n        if k:\n            a.clear()", "for k, m in zip(b, a):\n        a[k] = m"],
    "L24": ["x = set(a)", "x = set(a) - set(a)", "return set(a) < set(a)", "return set(a) == a", "x = len(set(a) - a)",
            "x = sorted(set(a), reverse=True)", "return set(a) in a", "f(set(a))", "x = [set(a)]",
            "x = frozenset(a)", "x = list(set(a))", "if set(a):\n        pass"],
    "L25": ["a.sort()", "x = a.append", "x = a.title()", "x = a.isdecimal()", "x = f(a.append)"],
    "L27": ["x = 2 ** a", "x = 2 ** 65", "x = 2 ** -1", "x = '%'", "x = chr(a)", "x = '\\x41'", "x = '\\r'",
            "x = f'%{a}'"],
}
# Whole files, each with a fault.
WRONG_FILES = {
    "L2": ["import os\n", "from os import path\n", "from .marks import sizes\n", "from sharings.marks import *\n",
           "from sharings.marks import sizes as s\n", "from sharings import marks\n",
           "X = 1\nfrom sharings.marks import sizes\n"],
    "L3": ["X = len([])\n", "print(1)\n", "if 1:\n    pass\n", "for X in 'a':\n    pass\n", "X = 1 + 1\n"],
    "L4": ["def f(*a):\n    pass\n", "def f(**a):\n    pass\n", "def f(*, a):\n    pass\n", "def f(a, /):\n    pass\n",
           "@f\ndef f():\n    pass\n", "def f(a=[]):\n    pass\n"],
    "L5": ["class A:\n    x = 1\n", "class A(B, C):\n    pass\n", "@f\nclass A:\n    pass\n"],
    "L10": ["def f():\n" + "    pass\n" * 40, "\n" * 401, "x = 1\t\n"],
    "L12": ["from sharings.marks import _a\n", "def f(_a):\n    pass\n", "def _f():\n    pass\n"],
    "L14": ["x = 'caf\u00e9'\n", "# caf\u00e9\n", "x = 1\r\n"],
    "L15": ["x = 1\nx = 2\n", "def f():\n    pass\n\n\ndef f():\n    pass\n", "X = [1]\n", "X = {}\n", "X = [[]]\n",
            "from sharings.marks import sizes\n\n\ndef f(sizes):\n    pass\n",
            "class A:\n    pass\n\n\ndef f(A):\n    pass\n", "def len():\n    pass\n", "def f(id):\n    pass\n"],
    "L18": ["class A:\n    def f(self):\n        pass\n\n    def f(self):\n        pass\n"],
    "L21": ["def f(a: int):\n    pass\n", "def f() -> int:\n    pass\n"],
    "L26": ["class A:\n    def __init__(self):\n        self.items = 1\n",
            "class A:\n    def sort(self):\n        pass\n"],
    "L28": ["class A:\n    def __len__(self):\n        return 1 + 1\n"],
}
RIGHT = '''"""Words."""

from sharings.errors import NoThing
from sharings.marks import sizes

MOST = 12


def f(a, b=1):
    c = []
    x = len(set(a)) + len(set(a) - set(b)) + len(sorted(set(a) | set(b) | set(a)))
    for k, m in enumerate(zip(a, b)):
        x += min(range(k)) * m ** 2
        c.append([sizes(n) for n in list(a) if n not in set(b)])
    if set(a) == set(b) or x is None:
        raise NoThing(f"{a} and {b!r}\\n")
    return sorted(a.items(), key=len, reverse=True), ", ".join(reversed(a))
'''


class Language(unittest.TestCase):
    def test_files(self):
        self.assertEqual(list(file_faults([name for name in os.listdir(PACKAGE) if name != "__pycache__"])), [])

    def test_all_modules_are_there(self):
        modules = {"__init__", "errors", "marks", "order", "numbers", "pairs", "notes"}
        self.assertLessEqual(modules, set(package_texts()))

    def test_rules(self):
        for name, text in package_texts().items():
            with self.subTest(name):
                self.assertEqual(faults(text), [])

    def test_names_are_drawn_from_the_file_that_defines_them(self):
        texts = package_texts()
        for name, text in texts.items():
            for source, drawn in drawn_names(text):
                with self.subTest(name=name, drawn=drawn):
                    self.assertIn(drawn, defined_names(texts[source]))

    def test_init_binds_no_name_of_a_file(self):
        text = package_texts()["__init__"]
        self.assertFalse(set(defined_names(text)) & set(package_texts()))
        self.assertEqual(drawn_names(text), [])

    def test_no_two_files_draw_from_one_another(self):
        self.assertEqual(drawn_round(files_drawn(package_texts())), [])

    def test_no_function_comes_back_to_itself(self):
        texts = package_texts()
        names = [name for text in texts.values() for name in defined_names(text)]
        self.assertEqual(len(names), len(set(names)))
        self.assertEqual(drawn_round(functions_called(texts)), [])


class LookAtTheRules(unittest.TestCase):
    """The look itself: it finds what is wrong, and lets pass what is right."""

    def test_wrong_rows_are_found(self):
        for rule, rows in WRONG_ROWS.items():
            for row in rows:
                with self.subTest(rule=rule, row=row):
                    self.assertNotEqual(faults(f"def f(a, b):\n    {row}\n"), [])

    def test_wrong_files_are_found(self):
        for rule, texts in WRONG_FILES.items():
            for text in texts:
                with self.subTest(rule=rule, text=text):
                    self.assertNotEqual(faults(text), [])

    def test_each_rule_is_looked_at(self):
        # L1 is asked of the names of files, L16 of all files together.
        looked_at = set(WRONG_ROWS) | set(WRONG_FILES) | {"L1", "L16"}
        self.assertEqual(looked_at, {f"L{number}" for number in range(1, 29)})

    def test_wrong_file_names_are_found(self):
        for name in ("Marks.py", "marks.txt", "len.py", "test_marks.py", "tests.py", "enum.py", "_marks.py", "a b.py",
                     "__main__.py", "marks", "site.py"):
            with self.subTest(name):
                self.assertEqual(list(file_faults(["__init__.py", name])), [name])
        self.assertNotEqual(list(file_faults(["marks.py"])), [])

    def test_files_drawn_round_are_found(self):
        one = {"__init__": "", "a": "from sharings.b import x\n", "b": "from sharings.c import x\n", "c": "x = 1\n"}
        self.assertEqual(drawn_round(files_drawn(one)), [])
        self.assertNotEqual(drawn_round(files_drawn(one | {"c": "from sharings.a import x\n"})), [])
        self.assertNotEqual(drawn_round(files_drawn(one | {"__init__": "from sharings.c import x\n"})), [])

    def test_functions_that_come_back_are_found(self):
        self.assertEqual(drawn_round(functions_called({"a": "def f():\n    g()\n\n\ndef g():\n    len()\n"})), [])
        self.assertNotEqual(drawn_round(functions_called({"a": "def f():\n    g()\n\n\ndef g():\n    f()\n"})), [])
        self.assertNotEqual(drawn_round(functions_called({"a": "def f():\n    return [f() for k in 'a']\n"})), [])

    def test_what_is_right_passes(self):
        self.assertEqual(faults(RIGHT), [])


if __name__ == "__main__":
    unittest.main()
