"""The part of Python that the package keeps to, as far as its files' trees show it."""

import ast
import builtins
import pathlib
import re
import unittest

PACKAGE = pathlib.Path(__file__).resolve().parent.parent / "planstore"
LONGEST_FILE, LONGEST_FUNCTION, LONGEST_LINE = 400, 40, 120

NODES = """
    Module FunctionDef ClassDef Return Assign AugAssign For While If Raise Try ExceptHandler ImportFrom Expr Pass Break
    Continue BoolOp BinOp UnaryOp Lambda IfExp Dict Set ListComp Compare Call JoinedStr FormattedValue Constant
    Attribute Subscript Name List Tuple Slice arguments arg keyword comprehension alias Load Store And Or Add Sub Mult
    FloorDiv Mod Pow BitOr BitXor BitAnd LShift RShift Not USub UAdd Invert Eq NotEq Lt LtE Gt GtE Is IsNot In NotIn
""".split()
OF_PYTHON = """
    len range enumerate zip min max sum abs sorted reversed int str bool list tuple dict set frozenset isinstance ord
    repr any all divmod Exception ValueError TypeError KeyError IndexError LookupError ZeroDivisionError
    ArithmeticError OverflowError RuntimeError NotImplementedError AttributeError StopIteration
""".split()
METHODS = """
    append clear copy count endswith extend find get index insert isalnum isalpha isdigit islower isspace isupper items
    join keys ljust lower lstrip partition pop remove replace reverse rfind rjust rpartition rsplit rstrip setdefault
    split splitlines startswith strip update upper values zfill bit_length
""".split()
NO_WORDS = """
    type typing typing_extensions enum Enum IntEnum StrEnum Flag IntFlag Generic Protocol ABC ABCMeta namedtuple
    NamedTuple TypedDict TYPE_CHECKING abstractmethod
""".split()
NO_NAMES = """
    register mro elements open input version_info with_traceback add_note format format_map
""".split()
TWO_UNDERSCORES = ("__init__", "__eq__", "__repr__", "__str__", "__len__")
FREE_VALUES = "count index title find get join lower upper split strip copy add".split()
PYTHONS_OWN = {name for kind in (str, int, list, dict, set, bytes) for name in dir(kind)}


WALKED = ("zip", "enumerate", "reversed", "range")
WALKED_METHODS = ("items", "keys", "values")
WALKERS = ("list", "tuple", "dict", "sorted", "sum", "any", "all", "enumerate", "zip")
KEYWORDS = {"sorted": ("key", "reverse"), "min": ("key", "default"), "max": ("key", "default"), "sum": ("start",),
            "enumerate": ("start",), "zip": ("strict",)}
CHANGES = "append clear extend insert pop remove reverse setdefault update".split()


def package_files():
    return sorted(PACKAGE.glob("*.py"))


def tree_of_file(path):
    return ast.parse(path.read_text())


def nodes_of(path, *kinds):
    return [node for node in ast.walk(tree_of_file(path)) if isinstance(node, kinds)]


def top_names(path):
    names = []
    for node in tree_of_file(path).body:
        if isinstance(node, (ast.FunctionDef, ast.ClassDef)):
            names.append(node.name)
        if isinstance(node, ast.Assign):
            names.append(node.targets[0].id)
    return names


def imported_names(path):
    return [alias.name for node in nodes_of(path, ast.ImportFrom) for alias in node.names]


def methods_of(path):
    return [node.name for owner in nodes_of(path, ast.ClassDef) for node in owner.body
            if isinstance(node, ast.FunctionDef)]


def values_of(path):
    return [node.attr for node in nodes_of(path, ast.Attribute) if isinstance(node.ctx, ast.Store)]


def bound_within(path):
    """Parameters and locals: all names that are bound in a file, but at its top."""
    names = [node.arg for node in nodes_of(path, ast.arg)]
    tree = tree_of_file(path)
    at_top = {id(node.targets[0]) for node in tree.body if isinstance(node, ast.Assign)}
    for node in ast.walk(tree):
        if isinstance(node, ast.Name) and isinstance(node.ctx, ast.Store) and id(node) not in at_top:
            names.append(node.id)
    return names


def with_parents(path):
    """All nodes of a file, each with the node right above it."""
    return [(node, above) for above in ast.walk(tree_of_file(path)) for node in ast.iter_child_nodes(above)]


def called(node):
    """The name by which a call calls, of Python's own or the program's; None of a method's call and of what is no call."""
    return node.func.id if isinstance(node, ast.Call) and isinstance(node.func, ast.Name) else None


def method_called(node):
    return node.func.attr if isinstance(node, ast.Call) and isinstance(node.func, ast.Attribute) else None


class LanguageTest(unittest.TestCase):
    def each(self, *kinds):
        for path in package_files():
            for node in nodes_of(path, *kinds):
                yield node, f"{path.name}:{getattr(node, 'lineno', 0)}"

    def test_files(self):
        self.assertTrue((PACKAGE / "__init__.py").is_file())
        for path in PACKAGE.iterdir():
            if path.name != "__pycache__":
                self.assertRegex(path.name, r"^[a-z0-9_]+\.py$")

    def test_sizes_and_signs(self):
        for path in package_files():
            text = path.read_text(encoding="utf-8")
            self.assertRegex(text, r"\A[ -~\n]*\Z", path.name)
            self.assertLessEqual(len(text.splitlines()), LONGEST_FILE, path.name)
            self.assertLessEqual(max(len(line) for line in text.splitlines()), LONGEST_LINE, path.name)
            for word in re.findall(r"\w+", text):
                self.assertNotIn(word, NO_WORDS, path.name)
        for node, place in self.each(ast.FunctionDef):
            self.assertLessEqual(node.end_lineno - node.lineno + 1, LONGEST_FUNCTION, place)

    def test_nodes(self):
        for node, place in self.each(ast.AST):
            self.assertIn(type(node).__name__, NODES, place)

    def test_top_of_a_file(self):
        for path in package_files():
            names = top_names(path) + imported_names(path)
            self.assertEqual(len(names), len(set(names)), path.name)
            for place, node in enumerate(tree_of_file(path).body):
                docstring = place == 0 and isinstance(node, ast.Expr) and isinstance(node.value, ast.Constant)
                plain = (ast.ImportFrom, ast.FunctionDef, ast.ClassDef, ast.Assign)
                self.assertTrue(docstring or isinstance(node, plain), f"{path.name}:{node.lineno}")

    def test_imports(self):
        drawn = {path.stem: [] for path in package_files()}
        for path in package_files():
            for node in nodes_of(path, ast.ImportFrom):
                self.assertEqual(node.level, 0, path.name)
                self.assertRegex(node.module, r"^planstore\.[a-z0-9_]+$")
                stem = node.module.split(".")[1]
                drawn[path.stem].append(stem)
                for alias in node.names:
                    self.assertIn(alias.name, top_names(PACKAGE / f"{stem}.py"), path.name)
        while drawn:
            free = [stem for stem, others in drawn.items() if not any(other in drawn for other in others)]
            self.assertTrue(free, f"these draw from one another: {sorted(drawn)}")
            drawn = {stem: others for stem, others in drawn.items() if stem not in free}

    def test_defs_and_classes(self):
        for node, place in self.each(ast.FunctionDef, ast.Lambda):
            args = node.args
            self.assertFalse(args.vararg or args.kwarg or args.kwonlyargs or args.posonlyargs, place)
            self.assertFalse(getattr(node, "decorator_list", []), place)
        for node, place in self.each(ast.ClassDef):
            self.assertFalse(node.decorator_list or node.keywords, place)
            self.assertLessEqual(len(node.bases), 1, place)
            names = [part.name for part in node.body if isinstance(part, ast.FunctionDef)]
            self.assertEqual(len(names), len(set(names)), place)
            for part in node.body:
                self.assertIsInstance(part, (ast.FunctionDef, ast.Pass, ast.Expr), place)

    def test_statements(self):
        for node, place in self.each(ast.For, ast.While):
            self.assertFalse(node.orelse, place)
        for node, place in self.each(ast.Try):
            self.assertFalse(node.finalbody, place)
        for node, place in self.each(ast.Assign):
            self.assertEqual(len(node.targets), 1, place)
        for node, place in self.each(ast.Expr):
            text = isinstance(node.value, ast.Constant) and isinstance(node.value.value, str)
            self.assertTrue(text or isinstance(node.value, ast.Call), place)
        for node, place in self.each(ast.ExceptHandler):
            names = [part.id for part in ast.walk(node.type) if isinstance(part, ast.Name)] if node.type else []
            self.assertTrue(names and "Exception" not in names and "TypeError" not in names, place)
        for node, place in self.each(ast.Raise):
            self.assertIsInstance(node.exc, ast.Call, place)

    def test_expressions(self):
        for node, place in self.each(ast.Constant):
            self.assertIn(type(node.value), (int, str, bool, type(None)), place)
            if isinstance(node.value, str):
                self.assertNotIn("%", node.value, place)
        for node, place in self.each(ast.ListComp):
            self.assertTrue(len(node.generators) == 1 and len(node.generators[0].ifs) <= 1, place)
        for node, place in self.each(ast.FormattedValue):
            self.assertTrue(isinstance(node.value, ast.Name) and node.conversion in (-1, ord("r")), place)
        for node, place in self.each(ast.Compare):
            sides = [node.left] + node.comparators
            if any(isinstance(sign, (ast.Is, ast.IsNot)) for sign in node.ops):
                self.assertTrue(any(isinstance(side, ast.Constant) and any(side.value is truth for truth in (None, True, False))
                                    for side in sides), place)
        for node, place in self.each(ast.BinOp):
            if isinstance(node.op, ast.Pow):
                self.assertIsInstance(node.right, ast.Constant, place)

    def test_walked_at_once(self):
        for path in package_files():
            for node, above in with_parents(path):
                if called(node) not in WALKED and not (method_called(node) in WALKED_METHODS and not node.args):
                    continue
                walked = isinstance(above, (ast.For, ast.comprehension)) and above.iter is node
                first = called(above) in WALKERS and above.args[0] is node
                alone = called(above) in ("min", "max") and above.args == [node]
                self.assertTrue(walked or first or alone, f"{path.name}:{node.lineno}")

    def test_sets(self):
        for path in package_files():
            for node, above in with_parents(path):
                if called(node) == "set" or isinstance(node, ast.Set):
                    asked = isinstance(above, ast.Compare) and isinstance(above.ops[0], (ast.In, ast.NotIn, ast.Eq, ast.NotEq))
                    within = called(above) in ("sorted", "len") and not above.keywords
                    self.assertTrue(asked or within, f"{path.name}:{node.lineno}")

    def test_keywords(self):
        for node, place in self.each(ast.Call):
            for keyword in node.keywords:
                self.assertIn(keyword.arg, KEYWORDS.get(called(node), ()), place)
                if keyword.arg in ("reverse", "strict"):
                    self.assertIsInstance(keyword.value, ast.Constant, place)

    def test_nothing_is_kept_at_a_files_top(self):
        for path in package_files():
            at_top = set(top_names(path)) | set(imported_names(path))
            for node in nodes_of(path, ast.Call, ast.Subscript):
                thing = node.func.value if method_called(node) in CHANGES else None
                if isinstance(node, ast.Subscript) and isinstance(node.ctx, ast.Store):
                    thing = node.value
                if isinstance(thing, ast.Name):
                    self.assertNotIn(thing.id, at_top, f"{path.name}:{node.lineno}")

    def test_names(self):
        for path in package_files():
            within = set(bound_within(path))
            at_top = set(top_names(path)) | set(imported_names(path))
            classes = {node.name for node in nodes_of(path, ast.ClassDef)}
            for name in within:
                self.assertNotIn(name, dir(builtins), path.name)
                self.assertNotIn(name, classes | set(imported_names(path)), path.name)
            for name in within | at_top | set(values_of(path)):
                self.assertFalse(name.startswith("_") or name in NO_NAMES, f"{path.name}: {name}")
            for node in nodes_of(path, ast.Name):
                self.assertIn(node.id, within | at_top | set(OF_PYTHON), f"{path.name}:{node.lineno}")

    def test_methods_and_values(self):
        methods = {name for path in package_files() for name in methods_of(path)}
        values = {name for path in package_files() for name in values_of(path)}
        self.assertEqual(methods & values, set())
        self.assertEqual((values & PYTHONS_OWN) - set(FREE_VALUES), set())
        free = set(TWO_UNDERSCORES) | set(METHODS) | {"add", "discard"}
        self.assertEqual((methods & PYTHONS_OWN) - free, set())
        for name in methods:
            self.assertTrue(name in TWO_UNDERSCORES or not name.startswith("_"), name)
            self.assertNotIn(name, NO_NAMES)
        known = methods | values | set(METHODS) | {"__init__", "add"}
        for node, place in self.each(ast.Attribute):
            self.assertIn(node.attr, known, place)


if __name__ == "__main__":
    unittest.main()
