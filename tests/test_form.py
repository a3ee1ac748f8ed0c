"""The form of the package's files, so far as it can be read off them (LANGUAGE.md, by its rules' numbers)."""

import ast
import builtins
import pathlib
import re
import unittest

PACKAGE = pathlib.Path(__file__).resolve().parent.parent / "fewbits"

STATEMENTS = (
    ast.Module, ast.FunctionDef, ast.ClassDef, ast.Return, ast.Assign, ast.AugAssign, ast.For, ast.While, ast.If,
    ast.Raise, ast.Try, ast.ExceptHandler, ast.ImportFrom, ast.alias, ast.Expr, ast.Pass, ast.Break, ast.Continue,
)
EXPRESSIONS = (
    ast.BoolOp, ast.boolop, ast.BinOp, ast.operator, ast.UnaryOp, ast.unaryop, ast.Lambda, ast.IfExp, ast.Dict,
    ast.Set, ast.ListComp, ast.comprehension, ast.Compare, ast.cmpop, ast.Call, ast.keyword, ast.JoinedStr,
    ast.FormattedValue, ast.Constant, ast.Attribute, ast.Subscript, ast.Name, ast.List, ast.Tuple, ast.Slice,
    ast.expr_context, ast.arguments, ast.arg,
)
OWN_NAMES = """len range enumerate zip min max sum abs sorted reversed int str bool list tuple dict set frozenset
isinstance ord repr any all divmod Exception ValueError TypeError KeyError IndexError LookupError ZeroDivisionError
ArithmeticError OverflowError RuntimeError NotImplementedError AttributeError StopIteration""".split()
OWN_METHODS = """append clear copy count endswith extend find get index insert isalnum isalpha isdigit islower isspace
isupper items join keys ljust lower lstrip partition pop remove replace reverse rfind rjust rpartition rsplit rstrip
setdefault split splitlines startswith strip update upper values zfill bit_length""".split()
DUNDERS = ("__init__", "__eq__", "__repr__", "__str__", "__len__")
BARRED_WORDS = re.compile(
    r"\b(type|typing|typing_extensions|enum|Enum|IntEnum|StrEnum|Flag|IntFlag|Generic|Protocol|ABC|ABCMeta"
    r"|namedtuple|NamedTuple|TypedDict|TYPE_CHECKING|abstractmethod)\b|dataclass|overload|contextmanager"
)

WALKED = ("zip", "enumerate", "reversed", "range", "items", "keys", "values")
WALKERS = ("list", "tuple", "dict", "sorted", "sum", "any", "all", "enumerate", "zip", "min", "max")
KEYWORDS = {
    "sorted": ("key", "reverse"), "min": ("key", "default"), "max": ("key", "default"), "sum": ("start",),
    "enumerate": ("start",), "zip": ("strict",),
}
BARRED_NAMES = """register mro elements open input version_info with_traceback add_note attrgetter breakpoint builtins
compile copyright credits delattr dir eval exec exit gc getattr globals hasattr help id importlib license locals
methodcaller os quit setattr super type vars sys""".split()


def text_faults(text):
    faults = []
    lines = text.split("\n")
    if len(lines) > 401:
        faults.append("L10: too many lines in the file")
    if any([len(line) > 120 for line in lines]):
        faults.append("L10: too long a line")
    if re.search(r"[^\n -~]", text):
        faults.append("L14: a sign that isn't plain")
    if BARRED_WORDS.search(text):
        faults.append("L17: a word that stands nowhere")
    return faults


def bound_names(tree):
    names = []
    for node in ast.walk(tree):
        if isinstance(node, (ast.FunctionDef, ast.ClassDef)):
            names.append(node.name)
        elif isinstance(node, ast.arg):
            names.append(node.arg)
        elif isinstance(node, ast.alias):
            names.append(node.asname or node.name)
        elif isinstance(node, ast.ExceptHandler) and node.name:
            names.append(node.name)
        elif isinstance(node, ast.Name) and isinstance(node.ctx, ast.Store):
            names.append(node.id)
    return names


def name_faults(tree):
    faults = []
    bound = bound_names(tree)
    for name in bound:
        if name not in DUNDERS and not re.fullmatch(r"[A-Za-z][A-Za-z0-9_]*", name):
            faults.append("L12: " + name)
        if name in OWN_NAMES:
            faults.append("L8: " + name + " is given another meaning")
    for node in ast.walk(tree):
        if isinstance(node, ast.Name) and node.id not in bound and node.id not in OWN_NAMES:
            faults.append("L8: " + node.id)
    return faults


def called_name(node):
    if not isinstance(node, ast.Call):
        return None
    return getattr(node.func, "id", None) or getattr(node.func, "attr", None)


def walk_faults(tree):
    """L23: what is made to be walked is walked on the spot."""
    allowed = []
    for node in ast.walk(tree):
        if isinstance(node, (ast.For, ast.comprehension)):
            allowed.append(node.iter)
        if called_name(node) in WALKERS and node.args:
            allowed.append(node.args[0])
        if called_name(node) == "join" and isinstance(node.func.value, ast.Constant):
            allowed.extend(node.args)
    found = [node for node in ast.walk(tree) if called_name(node) in WALKED]
    return ["L23: " + ast.unparse(node) for node in found if not any([node is each for each in allowed])]


def keyword_faults(tree):
    """L22; here no function of the package's own is called by keywords either."""
    faults = []
    for node in ast.walk(tree):
        if isinstance(node, ast.Call):
            for keyword in node.keywords:
                if keyword.arg not in KEYWORDS.get(called_name(node), ()):
                    faults.append("L22: " + ast.unparse(node))
    return faults


def local_faults(tree):
    """L15, L17: no parameter and no local is called like an import, a class of the file, or a name of Python's own."""
    barred = BARRED_NAMES + dir(builtins)
    for node in tree.body:
        if isinstance(node, ast.ImportFrom):
            barred.extend([alias.name for alias in node.names])
        elif isinstance(node, ast.ClassDef):
            barred.append(node.name)
    faults = []
    for node in tree.body:
        if isinstance(node, (ast.FunctionDef, ast.ClassDef)):
            bound = bound_names(node)
            bound.remove(node.name)
            faults.extend(["L15: " + name for name in bound if name in barred])
    used = [node.attr for node in ast.walk(tree) if isinstance(node, ast.Attribute)]
    faults.extend(["L17: " + name for name in bound_names(tree) + used if name in BARRED_NAMES])
    return faults


def set_faults(tree):
    found = [node for node in ast.walk(tree) if isinstance(node, ast.Set) or called_name(node) in ("set", "frozenset")]
    return ["L24: " + ast.unparse(node) for node in found]


def is_docstring(node, tree):
    return node is tree.body[0] and isinstance(node, ast.Expr) and ast.get_docstring(tree) is not None


def top_faults(tree):
    faults = []
    names = []
    for node in tree.body:
        if isinstance(node, ast.Assign):
            names.append(node.targets[0].id)
        elif isinstance(node, (ast.FunctionDef, ast.ClassDef)):
            names.append(node.name)
        elif not isinstance(node, ast.ImportFrom) and not is_docstring(node, tree):
            faults.append("L3: " + ast.dump(node))
    if len(names) != len(set(names)):
        faults.append("L15: a name is bound twice at the top")
    return faults


def number_faults(node):
    if isinstance(node, ast.Constant):
        value = node.value
        if isinstance(value, str):
            return ["L27: a percent sign within a text"] if "%" in value else []
        return [] if value is None or isinstance(value, int) else ["L7: " + repr(value)]
    if isinstance(node, ast.BinOp):
        if isinstance(node.op, (ast.Div, ast.MatMult)):
            return ["L7: an operator"]
        if isinstance(node.op, ast.Pow):
            exponent = node.right.value if isinstance(node.right, ast.Constant) else None
            return [] if isinstance(exponent, int) and exponent <= 64 else ["L27: an exponent that isn't written"]
    return []


def def_faults(node):
    faults = []
    if isinstance(node, (ast.FunctionDef, ast.ClassDef)) and node.decorator_list:
        faults.append("L4: a decorator")
    if isinstance(node, ast.FunctionDef) and node.end_lineno - node.lineno >= 40:
        faults.append("L10: too long a function")
    if isinstance(node, ast.arguments) and (node.vararg or node.kwarg or node.kwonlyargs or node.posonlyargs):
        faults.append("L4: parameters that aren't plain")
    if isinstance(node, ast.ClassDef):
        if len(node.bases) > 1 or node.keywords:
            faults.append("L5: more than one base")
        if not all([isinstance(part, (ast.FunctionDef, ast.Pass)) for part in node.body]):
            faults.append("L5: a value in the class body")
    return faults


def statement_faults(node, tree):
    faults = []
    if isinstance(node, ast.Assign) and len(node.targets) > 1:
        faults.append("L6: several targets")
    if isinstance(node, (ast.For, ast.While)) and node.orelse:
        faults.append("L6: else behind a loop")
    if isinstance(node, ast.Try) and node.finalbody:
        faults.append("L6: finally")
    if isinstance(node, ast.Expr) and not isinstance(node.value, ast.Call) and not is_docstring(node, tree):
        faults.append("L6: a value by itself")
    if isinstance(node, ast.ListComp) and (len(node.generators) > 1 or len(node.generators[0].ifs) > 1):
        faults.append("L7: a comprehension with more than one for and one if")
    if isinstance(node, ast.Compare):
        for op, side in zip(node.ops, node.comparators):
            plain = isinstance(side, ast.Constant) and side.value in (None, True, False)
            if isinstance(op, (ast.Is, ast.IsNot)) and not plain:
                faults.append("L20: is")
    return faults


def own_attributes(trees):
    """The methods and values of the package's own classes: they may be asked for in any file."""
    names = []
    for tree in trees:
        for node in ast.walk(tree):
            if isinstance(node, ast.ClassDef):
                names.extend([part.name for part in node.body if isinstance(part, ast.FunctionDef)])
            if isinstance(node, ast.Attribute) and isinstance(node.ctx, ast.Store):
                names.append(node.attr)
    return names


def attribute_faults(tree, own):
    used = [node.attr for node in ast.walk(tree) if isinstance(node, ast.Attribute)]
    return ["L25: " + name for name in used if name not in own and name not in OWN_METHODS and name not in DUNDERS]


def faults_of(text, own=()):
    tree = ast.parse(text)
    faults = text_faults(text) + name_faults(tree) + top_faults(tree) + attribute_faults(tree, own)
    faults.extend(walk_faults(tree) + keyword_faults(tree) + local_faults(tree) + set_faults(tree))
    for node in ast.walk(tree):
        if not isinstance(node, STATEMENTS + EXPRESSIONS):
            faults.append("L6, L7: " + ast.dump(node))
        faults.extend(number_faults(node) + def_faults(node) + statement_faults(node, tree))
    return faults


def drawn_from(tree):
    return [node for node in ast.walk(tree) if isinstance(node, ast.ImportFrom)]


class Form(unittest.TestCase):
    def setUp(self):
        self.trees = {}
        for path in sorted(PACKAGE.glob("*.py")):
            self.trees[path.stem] = ast.parse(path.read_text(encoding="utf-8"))

    def test_nothing_else_lies_in_the_folder(self):
        for path in PACKAGE.iterdir():
            if path.name != "__pycache__":
                self.assertRegex(path.name, r"\A([a-z][a-z0-9_]*|__init__)\.py\Z")
        self.assertIn("__init__", self.trees)

    def test_each_file(self):
        own = own_attributes(self.trees.values())
        for path in sorted(PACKAGE.glob("*.py")):
            with self.subTest(file=path.name):
                self.assertEqual(faults_of(path.read_text(encoding="utf-8"), own), [])

    def test_names_are_drawn_from_the_file_that_defines_them(self):
        for name, tree in self.trees.items():
            for node in drawn_from(tree):
                with self.subTest(file=name, module=node.module):
                    self.assertEqual(node.level, 0)
                    self.assertRegex(node.module, r"\Afewbits\.[a-z0-9_]+\Z")
                    defined = self.trees[node.module.split(".")[1]].body
                    names = [part.name for part in defined if isinstance(part, (ast.FunctionDef, ast.ClassDef))]
                    names.extend([part.targets[0].id for part in defined if isinstance(part, ast.Assign)])
                    for drawn in node.names:
                        self.assertIn(drawn.name, names)

    def test_no_two_files_draw_from_one_another(self):
        left = {}
        for name, tree in self.trees.items():
            left[name] = set([node.module.split(".")[1] for node in drawn_from(tree)])
        while left:
            free = [name for name, drawn in left.items() if not drawn & set(left)]
            self.assertTrue(free, "L16: " + repr(sorted(left)))
            for name in free:
                del left[name]


class FormOfOthers(unittest.TestCase):
    """A looker that lets everything by would let the files above by, too."""

    def test_plain_code_is_let_by(self):
        text = '"""Why."""\n\nBOUND = 64\n\n\ndef f(n):\n    if n is None:\n        return 2 ** 64\n    return n // 2\n'
        self.assertEqual(faults_of(text), [])
        self.assertEqual(faults_of("def f(e):\n    return e.row\n", ["row"]), [])
        self.assertEqual(faults_of("def f(n):\n    return [a + b for a, b in enumerate(zip(n, n))]\n"), [])
        self.assertEqual(faults_of("def f(n):\n    for k in range(3):\n        n = n + k\n    return n\n"), [])

    def test_other_code_is_not(self):
        others = (
            "import os\n", "x = 1.5\n", "x = 3 / 2\n", "def f(n):\n    return 2 ** n\n", "def f(*n):\n    return n\n",
            "x = 1\nx = 2\n", "def f(n):\n    'what'\n    return n\n", "def f(n):\n    return n is 3\n",
            "def f(n):\n    return type(n)\n", "def f(n):\n    assert n\n", "def f(n):\n    yield n\n",
            "def f(len):\n    return len\n", "def _f(n):\n    return n\n", "x = '\u00e4'\n", "x = 'a%b'\n",
            "class A:\n    x = 1\n", "def f(n):\n    return n.hex()\n",
            "def f(n):\n    return [i for i in n for j in i]\n", "def f(n):\n    return {i for i in n}\n",
            "def f(n):\n    a = b = n\n    return a\n", "print(1)\n",
            "def f(n):\n    for k in reversed(range(n)):\n        return k\n",
            "def f(n):\n    xs = zip(n, n)\n    return xs\n", "def f(n):\n    return list(zip(n, range(3)))\n",
            "def f(n):\n    return int('1', base=n)\n",
            "from fewbits.bits import full\n\n\ndef f(full):\n    return full\n", "def f(n):\n    hash = n\n    return hash\n",
            "def f(n):\n    return {1, 2, n}\n", "def f(n):\n    return set(n)\n", "def f(e):\n    return e.input\n",
            "def f(n):\n" + "    n = n + 1\n" * 40 + "    return n\n", "# " + "x" * 120 + "\n",
        )
        for text in others:
            with self.subTest(text=text[:60]):
                self.assertNotEqual(faults_of(text), [])


if __name__ == "__main__":
    unittest.main()
