"""The package's own files keep to the part of Python that ../shared/LANGUAGE.md tells, so far as a look can tell."""

import ast
import builtins
import io
import pathlib
import re
import tokenize
import unittest

PACKAGE = pathlib.Path(__file__).resolve().parent.parent / "usewarden"

STATEMENTS = (
    ast.Assign, ast.AugAssign, ast.AnnAssign, ast.If, ast.While, ast.For, ast.Return, ast.Break, ast.Continue, ast.Pass,
    ast.Raise, ast.Try, ast.Expr, ast.FunctionDef, ast.ClassDef, ast.ImportFrom,
)
EXPRESSIONS = (
    ast.Constant, ast.List, ast.Tuple, ast.Dict, ast.Set, ast.BinOp, ast.UnaryOp, ast.BoolOp, ast.Compare, ast.IfExp,
    ast.Call, ast.Attribute, ast.Subscript, ast.Slice, ast.ListComp, ast.JoinedStr, ast.FormattedValue, ast.Name, ast.Lambda,
)
FUNCTIONS = set(
    "len range enumerate zip min max sum abs sorted reversed int str bool list tuple dict set frozenset isinstance ord repr"
    " any all divmod".split()
)
ERRORS = set(
    "Exception ValueError TypeError KeyError IndexError LookupError ZeroDivisionError ArithmeticError OverflowError"
    " RuntimeError NotImplementedError AttributeError StopIteration".split()
)
METHODS = set(
    "append clear copy count endswith extend find get index insert isalnum isalpha isdigit islower isspace isupper items join"
    " keys ljust lower lstrip partition pop remove replace reverse rfind rjust rpartition rsplit rstrip setdefault split"
    " splitlines startswith strip update upper values zfill bit_length".split()
)
DUNDERS = {"__init__", "__eq__", "__repr__", "__str__", "__len__"}
NEVER = {"register", "mro", "elements", "open", "input", "version_info", "with_traceback", "add_note", "format", "format_map"}
NEVER_NAMES = set(
    "attrgetter breakpoint builtins compile copyright credits delattr dir eval exec exit gc getattr globals hasattr help id"
    " importlib license locals methodcaller os quit setattr super type vars sys chr".split()
)
NEVER_WORDS = (
    r"\b(type|typing|typing_extensions|enum|Enum|IntEnum|StrEnum|Flag|IntFlag|Generic|Protocol|ABC|ABCMeta|namedtuple"
    r"|NamedTuple|TypedDict|TYPE_CHECKING|abstractmethod)\b|dataclass|overload|contextmanager"
)
WALKED = {"zip", "enumerate", "reversed", "range"}
WALKED_METHODS = {"items", "keys", "values"}
WALKERS = {"list", "tuple", "dict", "sorted", "sum", "any", "all", "enumerate", "zip", "min", "max"}
KEYWORDS = {"sorted": {"key", "reverse"}, "min": {"key", "default"}, "max": {"key", "default"}, "sum": {"start"},
            "enumerate": {"start"}, "zip": {"strict"}}
CAUGHT_FREELY = {"KeyError", "ZeroDivisionError", "StopIteration"}
PYTHONS_OWN = {name for kind in (str, int, list, tuple, dict, set, frozenset, bytes) for name in dir(kind)}
OWN_METHODS_TOO = METHODS | {"add", "discard"}
OWN_VALUES_TOO = set("count index title find get join lower upper split strip copy add".split())
BARRED_VALUES = {"args", "encode", "format"}
BARRED_FILES = {"test", "tests", "testing", "site", "conftest", "sitecustomize", "usercustomize"} | set(dir(builtins))


class Checker:
    """Collects what a file has that the rules bar."""

    def __init__(self, name, source, own_methods, own_errors):
        self.name = name
        self.source = source
        self.own_methods = own_methods
        self.own_errors = own_errors
        self.faults = []
        self.tree = ast.parse(source)
        self.parents = {}
        for node in ast.walk(self.tree):
            for child in ast.iter_child_nodes(node):
                self.parents[child] = node

    def fault(self, rule, node, words):
        self.faults.append(f"{rule} {self.name}:{getattr(node, 'lineno', node)}: {words}")

    def check(self):
        self.check_text()
        self.check_top()
        self.check_locals()
        self.check_classes()
        for node in ast.walk(self.tree):
            handler = getattr(self, "see_" + node.__class__.__name__.lower(), None)
            if handler is not None:
                handler(node)
            if isinstance(node, ast.stmt) and not isinstance(node, STATEMENTS):
                self.fault("L6", node, "this statement")
            if isinstance(node, ast.expr) and not isinstance(node, EXPRESSIONS):
                self.fault("L7", node, "this expression")
        return self.faults

    def check_text(self):
        rows = self.source.split("\n")
        if len(rows) - 1 > 400:
            self.fault("L10", len(rows), "a file too long")
        for at, row in enumerate(rows, start=1):
            if len(row) > 120:
                self.fault("L10", at, "a line too long")
            if not all(" " <= sign <= "~" for sign in row):
                self.fault("L14", at, "a sign")
            if re.search(NEVER_WORDS, row):
                self.fault("L17", at, "a word")
        for token in tokenize.generate_tokens(io.StringIO(self.source).readline):
            if token.type == tokenize.STRING and re.search(r"\\[^nt\\'\"]", token.string):
                self.fault("L27", token.start[0], "an escape")

    def check_top(self):
        bound = []
        for at, node in enumerate(self.tree.body):
            if isinstance(node, ast.Assign) and len(node.targets) == 1 and isinstance(node.targets[0], ast.Name):
                bound.append(node.targets[0].id)
                self.check_plain(node.value, 0)
            elif isinstance(node, (ast.FunctionDef, ast.ClassDef)):
                bound.append(node.name)
            elif isinstance(node, ast.ImportFrom):
                bound.extend(alias.asname or alias.name for alias in node.names)
            elif not (at == 0 and self.is_docstring(node)):
                self.fault("L3", node, "not at the top")
        if len(set(bound)) != len(bound):
            self.fault("L15", 1, "a name bound twice")
        for node in ast.walk(self.tree):
            if isinstance(node, ast.ClassDef) and node not in self.tree.body:
                self.fault("L15", node, "a class within")

    def check_plain(self, node, depth):
        if isinstance(node, (ast.List, ast.Dict)) and depth:
            self.fault("L15", node, "a list within a list of the top")
        if isinstance(node, (ast.List, ast.Tuple)):
            for part in node.elts:
                self.check_plain(part, depth + 1)
        elif isinstance(node, ast.Dict):
            for part in (*node.keys, *node.values):
                self.check_plain(part, depth + 1)
        elif not isinstance(node, (ast.Constant, ast.Name)):
            number = isinstance(node, ast.UnaryOp) and isinstance(node.operand, ast.Constant)
            if not number:
                self.fault("L3", node, "no plain value")

    def is_docstring(self, node):
        return isinstance(node, ast.Expr) and isinstance(node.value, ast.Constant) and isinstance(node.value.value, str)

    def check_name(self, node, name):
        if not re.fullmatch(r"[A-Za-z][A-Za-z0-9_]*", name):
            self.fault("L12", node, name)
        if name in NEVER or name in NEVER_NAMES:
            self.fault("L17", node, name)

    def check_bound(self, node, name):
        self.check_name(node, name)
        if hasattr(builtins, name):
            self.fault("L15", node, name)

    def check_locals(self):
        """No parameter and no local is called like a class or an import of its file."""
        drawn = [alias.asname or alias.name for node in self.tree.body if isinstance(node, ast.ImportFrom) for alias in node.names]
        drawn += [node.name for node in self.tree.body if isinstance(node, ast.ClassDef)]
        for node in ast.walk(self.tree):
            if isinstance(node, ast.arg) and node.arg in drawn:
                self.fault("L15", node, node.arg)
            if isinstance(node, ast.Name) and isinstance(node.ctx, ast.Store) and node.id in drawn:
                self.fault("L15", node, node.id)

    def check_classes(self):
        """A class is called, is a base, or stands by isinstance, except or raise."""
        classes = [node.name for node in self.tree.body if isinstance(node, ast.ClassDef)]
        for node in ast.walk(self.tree):
            if isinstance(node, ast.Name) and node.id in classes and not isinstance(
                    self.parents[node], (ast.Call, ast.ClassDef, ast.ExceptHandler)):
                if not (isinstance(self.parents[node], ast.Attribute) and self.parents[node].attr == "__init__"):
                    self.fault("L18", node, node.id)
            if isinstance(node, ast.Call) and any(isinstance(part, ast.Name) and part.id in classes for part in node.args):
                if not (isinstance(node.func, ast.Name) and node.func.id == "isinstance"):
                    self.fault("L18", node, "a class is handed on")

    def see_import(self, node):
        self.fault("L2", node, "an import")

    def see_importfrom(self, node):
        if node not in self.tree.body or node.level or not node.module.startswith("usewarden."):
            self.fault("L2", node, "an import")
        elif any(alias.name == "*" for alias in node.names):
            self.fault("L2", node, "a star")
        elif "." in node.module[len("usewarden."):] or node.module.endswith("__main__"):
            self.fault("L16", node, node.module)

    def see_functiondef(self, node):
        body = node.body[1:] if self.is_docstring(node.body[0]) else node.body
        if node.decorator_list or node.args.vararg or node.args.kwarg or node.args.kwonlyargs or node.args.posonlyargs:
            self.fault("L4", node, node.name)
        if node.end_lineno - node.lineno + 1 > 40:
            self.fault("L10", node, node.name)
        if node.name not in DUNDERS:
            if not isinstance(self.parents[node], ast.ClassDef):
                self.check_bound(node, node.name)
            self.check_name(node, node.name)
        for argument in node.args.args:
            self.check_bound(argument, argument.arg)
        if node.name == "__init__" and any(isinstance(part, ast.Return) and part.value for part in ast.walk(node)):
            self.fault("L28", node, "it gives back something")
        if any(self.is_docstring(part) for part in body):
            self.fault("L6", node, "a text by itself")

    def see_lambda(self, node):
        for argument in node.args.args:
            self.check_bound(argument, argument.arg)

    def see_classdef(self, node):
        self.check_bound(node, node.name)
        if node.decorator_list or node.keywords or len(node.bases) > 1:
            self.fault("L5", node, node.name)
        body = node.body[1:] if self.is_docstring(node.body[0]) else node.body
        if not all(isinstance(part, (ast.FunctionDef, ast.Pass)) for part in body):
            self.fault("L5", node, "a value in the body")
        names = [part.name for part in body if isinstance(part, ast.FunctionDef)]
        if len(set(names)) != len(names):
            self.fault("L18", node, "a method twice")

    def see_assign(self, node):
        if len(node.targets) != 1 or isinstance(node.targets[0], (ast.Tuple, ast.List)):
            self.fault("L6", node, "more than one target")

    def see_for(self, node):
        if node.orelse:
            self.fault("L6", node, "else behind a loop")
        walked = [ast.dump(part) for part in ast.walk(node.iter) if isinstance(part, ast.Name)]
        for part in ast.walk(ast.Module(body=node.body, type_ignores=[])):
            changes = isinstance(part, ast.Call) and isinstance(part.func, ast.Attribute) and part.func.attr in {
                "append", "clear", "extend", "insert", "pop", "remove", "reverse", "setdefault", "update"}
            if changes and ast.dump(part.func.value) in walked:
                self.fault("L23", part, "what is walked is changed")
            if isinstance(part, ast.Subscript) and isinstance(part.ctx, ast.Store) and ast.dump(
                    part.value).replace("Store", "Load") in walked:
                self.fault("L23", part, "what is walked is changed")

    def see_while(self, node):
        if node.orelse:
            self.fault("L6", node, "else behind a loop")

    def see_expr(self, node):
        if not isinstance(node.value, ast.Call) and not self.is_docstring(node):
            self.fault("L6", node, "no call")

    def see_try(self, node):
        if node.finalbody:
            self.fault("L6", node, "finally")

    def see_excepthandler(self, node):
        if not isinstance(node.type, ast.Name):
            self.fault("L19", node, "no class, or several")
        elif node.type.id not in CAUGHT_FREELY | self.own_errors | {"ValueError", "LookupError", "IndexError"}:
            self.fault("L19", node, node.type.id)
        elif node.type.id in {"ValueError", "LookupError", "IndexError"}:
            if len(self.parents[node].body) != 1:
                self.fault("L19", node, "a try not of its own")

    def see_raise(self, node):
        if not isinstance(node.exc, ast.Call):
            self.fault("L19", node, "not made on the spot")

    def see_name(self, node):
        if isinstance(node.ctx, ast.Store):
            self.check_bound(node, node.id)
            return
        self.check_name(node, node.id)
        if hasattr(builtins, node.id) and node.id not in FUNCTIONS | ERRORS:
            self.fault("L8", node, node.id)
        if node.id in FUNCTIONS and not self.is_called_or_asked(node):
            self.fault("L22", node, node.id)

    def is_called_or_asked(self, node):
        parent = self.parents[node]
        if isinstance(parent, ast.Tuple):
            parent = self.parents[parent]
        if isinstance(parent, ast.keyword):
            return parent.arg == "key" and node.id in {"len", "int", "str", "abs", "sum", "min", "max", "tuple"}
        if not isinstance(parent, ast.Call):
            return False
        return parent.func is node or (isinstance(parent.func, ast.Name) and parent.func.id == "isinstance")

    def see_attribute(self, node):
        if node.attr in NEVER or (node.attr.startswith("_") and node.attr != "__init__"):
            self.fault("L17", node, node.attr)
        parent = self.parents[node]
        called = isinstance(parent, ast.Call) and parent.func is node
        if called and node.attr not in METHODS | self.own_methods | {"__init__", "add", "discard"}:
            self.fault("L25", node, node.attr)
        if called and node.attr in WALKED_METHODS and not self.is_walked(parent):
            self.fault("L23", node, node.attr)

    def is_walked(self, node):
        parent = self.parents[node]
        if isinstance(parent, (ast.For, ast.comprehension)):
            return parent.iter is node
        if not isinstance(parent, ast.Call) or node not in parent.args:
            return False
        if isinstance(parent.func, ast.Attribute):
            return parent.func.attr == "join" and isinstance(parent.func.value, ast.Constant)
        return parent.func.id in WALKERS and (parent.args[0] is node or parent.func.id == "zip")

    def see_call(self, node):
        name = node.func.id if isinstance(node.func, ast.Name) else None
        if any(keyword.arg is None for keyword in node.keywords):
            self.fault("L7", node, "stars")
        if name in WALKED and not self.is_walked(node):
            self.fault("L23", node, name)
        if name in FUNCTIONS | ERRORS and any(keyword.arg not in KEYWORDS.get(name, ()) for keyword in node.keywords):
            self.fault("L22", node, "a keyword")
        if isinstance(node.func, ast.Attribute) and node.func.attr in METHODS and node.keywords:
            self.fault("L22", node, "a keyword")
        if name in {"set", "frozenset"}:
            self.check_set(node)

    def see_set(self, node):
        self.check_set(node)

    def check_set(self, node):
        parent = self.parents[node]
        while isinstance(parent, ast.BinOp):
            parent = self.parents[parent]
        counted = isinstance(parent, ast.Call) and isinstance(parent.func, ast.Name) and parent.func.id in {"sorted", "len"}
        if not isinstance(parent, ast.Compare) and not counted:
            self.fault("L24", node, "a set is kept")

    def see_listcomp(self, node):
        if len(node.generators) != 1 or len(node.generators[0].ifs) > 1:
            self.fault("L7", node, "more than one for or if")

    def see_binop(self, node):
        if isinstance(node.op, (ast.Div, ast.MatMult)):
            self.fault("L7", node, "this sign")
        if isinstance(node.op, ast.Pow):
            written = isinstance(node.right, ast.Constant) and isinstance(node.right.value, int)
            if not written or not 0 <= node.right.value <= 64:
                self.fault("L27", node, "an exponent")

    def see_compare(self, node):
        sides = [node.left, *node.comparators]
        for at, sign in enumerate(node.ops):
            if isinstance(sign, (ast.Is, ast.IsNot)):
                plain = [side for side in sides[at:at + 2] if isinstance(side, ast.Constant) and side.value in (None, True, False)]
                if not plain:
                    self.fault("L20", node, "is")

    def see_constant(self, node):
        if not (node.value is None or isinstance(node.value, (bool, int, str))):
            self.fault("L7", node, "this value")
        if isinstance(node.value, str) and "%" in node.value:
            self.fault("L27", node, "a text with a share sign")

    def see_formattedvalue(self, node):
        if not isinstance(node.value, ast.Name) or node.format_spec is not None or node.conversion not in (-1, ord("r")):
            self.fault("L7", node, "no plain name in an f-string")


def sources():
    """The texts of the package's files, by their names without the ending."""
    return {path.stem: path.read_bytes().decode("utf-8") for path in sorted(PACKAGE.glob("*.py"))}


def own_names(trees):
    """The names of the methods, and of the error classes, of the package."""
    classes = [node for tree in trees for node in tree.body if isinstance(node, ast.ClassDef)]
    methods = {part.name for node in classes for part in node.body if isinstance(part, ast.FunctionDef)}
    return methods - DUNDERS, {node.name for node in classes if node.bases}


def values_of(trees):
    """The names of the values that objects are given in the package."""
    return {node.attr for tree in trees for node in ast.walk(tree)
            if isinstance(node, ast.Attribute) and isinstance(node.ctx, ast.Store)}


def faults_of_names(trees):
    """The names of methods and values of the package that the rules bar."""
    methods, values = own_names(trees)[0], values_of(trees)
    faults = [f"L18 {name}" for name in methods & values]
    faults += [f"L26 {name}" for name in methods if name in PYTHONS_OWN - OWN_METHODS_TOO]
    return faults + [f"L26 {name}" for name in values if name in (PYTHONS_OWN | BARRED_VALUES) - OWN_VALUES_TOO]


def faults_of(text):
    """What a file of that text has that the rules bar."""
    methods, errors = own_names([ast.parse(text)])
    return Checker("sample", text, methods, errors).check()


class Language(unittest.TestCase):
    def test_files(self):
        for path in PACKAGE.iterdir():
            if path.name != "__pycache__":
                self.assertRegex(path.name, r"^([a-z][a-z0-9_]*|__init__|__main__)\.py$")
                self.assertNotIn(path.stem, BARRED_FILES)
                self.assertNotRegex(path.stem, r"^test_")
        self.assertTrue((PACKAGE / "__init__.py").is_file())

    def test_each_file(self):
        texts = sources()
        methods, errors = own_names([ast.parse(text) for text in texts.values()])
        for name, text in texts.items():
            self.assertEqual(Checker(name, text, methods, errors).check(), [])

    def test_methods_and_values(self):
        self.assertEqual(faults_of_names([ast.parse(text) for text in sources().values()]), [])

    def test_names_are_drawn_from_where_they_are_defined_and_never_in_a_ring(self):
        drawn = {}
        texts = sources()
        for name, text in texts.items():
            drawn[name] = set()
            for node in ast.parse(text).body:
                if isinstance(node, ast.ImportFrom):
                    source = node.module.partition(".")[2]
                    drawn[name] |= {source, "__init__"}
                    defined = re.findall(r"^(?:def |class )?([A-Za-z][A-Za-z0-9_]*)", texts[source], re.MULTILINE)
                    for alias in node.names:
                        self.assertIn(alias.name, defined)
        while drawn:
            free = [name for name in drawn if not drawn[name] & set(drawn)]
            self.assertNotEqual(free, [], "files draw from one another")
            for name in free:
                drawn.pop(name)


class TheCheckItself(unittest.TestCase):
    def test_it_finds_what_is_barred(self):
        barred = {
            "L2": "import re\n",
            "L3": "for x in (1, 2):\n    pass\n",
            "L4": "def f(*xs):\n    return xs\n",
            "L5": "class A:\n    x = 1\n",
            "L6": "def f(x):\n    a = b = x\n    return a\n",
            "L7": "def f(x):\n    return x / 2\n",
            "L8": "def f(x):\n    return pow(x, 2)\n",
            "L10": "def f(x):\n" + "    x = x + 1\n" * 40,
            "L12": "def f(x):\n    _y = x\n    return _y\n",
            "L14": "def f(x):\n\treturn x\n",
            "L15": "def f(max):\n    return max\n",
            "L17": "def f(x):\n    return x.register\n",
            "L19": "def f(x):\n    try:\n        return x\n    except TypeError:\n        return 1\n",
            "L20": "def f(x, y):\n    return x is y\n",
            "L22": "def f(x):\n    return sorted([len], x)\n",
            "L23": "def f(x):\n    return [range(x)]\n",
            "L24": "def f(x):\n    y = set(x)\n    return y\n",
            "L25": "def f(x):\n    return x.casefold()\n",
            "L27": "def f(x):\n    return 2 ** x\n",
            "L28": "class A:\n    def __init__(self):\n        return None\n",
        }
        for rule, text in barred.items():
            self.assertTrue(any(fault.startswith(rule + " ") for fault in faults_of(text)), rule)

    def test_it_finds_more_that_is_barred(self):
        for rule, text in [
            ("L15", "from usewarden.rules import is_rule\ndef f(is_rule):\n    return is_rule\n"),
            ("L15", "class A:\n    pass\ndef f(x):\n    A = x\n    return A\n"),
            ("L18", "class A:\n    pass\ndef f():\n    return [A]\n"),
            ("L18", "class A:\n    pass\ndef f(x):\n    return x(A)\n"),
        ]:
            self.assertTrue(any(fault.startswith(rule + " ") for fault in faults_of(text)), text)

    def test_it_finds_barred_methods_and_values(self):
        clash = "class A:\n    def near(self):\n        return 1\nclass B:\n    def __init__(self):\n        self.near = 1\n"
        for rule, text in [
            ("L18", clash),
            ("L26", "class A:\n    def casefold(self):\n        return 1\n"),
            ("L26", "class A:\n    def __init__(self):\n        self.items = 1\n"),
            ("L26", "class A:\n    def __init__(self):\n        self.args = 1\n"),
        ]:
            self.assertEqual([fault.split(" ")[0] for fault in faults_of_names([ast.parse(text)])], [rule])

    def test_it_lets_by_what_is_allowed(self):
        text = "\n".join([
            '"""Words."""', "from usewarden.errors import NoText", "TOP = [1, -2]", "class A(ValueError):", '    """Words."""',
            "    def __init__(self, x):", "        ValueError.__init__(self, f'{x!r}')", "        self.x = x",
            "def f(xs, n=0):", "    ys = [x for x in sorted(xs, key=len) if isinstance(x, (int, str))]", "    if n is None:",
            "        raise NoText('none')", "    try:", "        return int(ys[0])", "    except ValueError:",
            "        return sum([y ** 2 for y in range(len(set(ys)))])", "",
        ])
        self.assertEqual(faults_of(text), [])


if __name__ == "__main__":
    unittest.main()
