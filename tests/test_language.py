"""What a test can see of the rules of LANGUAGE.md in the files of the package."""

import ast
import builtins
import pathlib
import re
import unittest

PACKAGE = pathlib.Path(__file__).resolve().parent.parent / "startbits"

# L6 and L7: the parts of Python that the package uses so far. More may be added as the rules allow it.
PARTS = """
    Module Expr Assign Return If For While Break Continue Pass Raise Try ExceptHandler
    FunctionDef ClassDef arguments arg ImportFrom alias
    Name Constant Attribute Subscript Slice Call keyword Tuple List Dict Starred JoinedStr FormattedValue
    BinOp UnaryOp BoolOp Compare IfExp ListComp DictComp comprehension
    Add Sub Mult FloorDiv Mod LShift RShift BitAnd BitOr BitXor USub Not And Or
    Eq NotEq Lt LtE Gt GtE Is IsNot In NotIn Load Store
""".split()

# L8, without those that a later rule removes, and L5 for super and property.
BUILTINS = """
    len range enumerate zip min max sum abs sorted reversed int str bool list tuple dict set isinstance ord repr
    any all divmod super property Exception ValueError TypeError KeyError IndexError LookupError ZeroDivisionError
""".split()

# L25, first list.
METHODS = """
    append clear copy count endswith extend find get index insert isalnum isalpha isdigit islower isspace isupper
    items join keys ljust lower lstrip partition pop remove replace reverse rfind rjust rpartition rsplit rstrip
    setdefault split splitlines startswith strip update upper values zfill bit_length
""".split()

NO_NAMES = """
    register mro elements open input law version_info with_traceback add_note attrgetter breakpoint builtins compile
    copyright credits delattr dir eval exec exit gc globals help id importlib license locals methodcaller os quit
    type vars sys
""".split()

NO_WORDS = """
    type typing typing_extensions enum Enum IntEnum StrEnum Flag IntFlag Generic Protocol ABC ABCMeta namedtuple
    NamedTuple TypedDict TYPE_CHECKING abstractmethod dataclass overload contextmanager
""".split()

# L2, of which the package uses this much so far.
LIBRARY = [("math", "gcd")]

IMPORTED = re.compile(r"startbits\.([a-z_]+)\Z")


def defined_in(tree):
    """The names that a file binds at module level, imports left out."""
    names = []
    for row in tree.body:
        if isinstance(row, (ast.FunctionDef, ast.ClassDef)):
            names.append(row.name)
        elif isinstance(row, ast.Assign):
            names.extend(target.id for target in row.targets)
    return names


def imports_of(tree):
    """The tuples (module, name) that a file imports."""
    return [(row.module, alias.name) for row in tree.body if isinstance(row, ast.ImportFrom) for alias in row.names]


def bound_in(function):
    """The parameters and the local variables of a function."""
    names = [node.arg for node in ast.walk(function) if isinstance(node, ast.arg)]
    return names + [node.id for node in ast.walk(function)
                    if isinstance(node, ast.Name) and isinstance(node.ctx, ast.Store)]


def is_docstring(row):
    return isinstance(row, ast.Expr) and isinstance(row.value, ast.Constant) and isinstance(row.value.value, str)


class LanguageTest(unittest.TestCase):
    def setUp(self):
        self.paths = sorted(PACKAGE.glob("*.py"))
        self.texts = {path.stem: path.read_text(encoding="utf-8") for path in self.paths}
        self.trees = {name: ast.parse(text) for name, text in self.texts.items()}

    def nodes(self, *kinds):
        for name, tree in self.trees.items():
            for node in ast.walk(tree):
                if isinstance(node, kinds):
                    yield f"{name}.py:{getattr(node, 'lineno', 0)}", node

    def test_files(self):
        found = [path for path in PACKAGE.iterdir() if path.name != "__pycache__"]
        self.assertEqual(sorted(found), self.paths)
        self.assertIn("__init__", self.texts)
        for name in self.texts:
            self.assertRegex(name, r"\A(__init__|__main__|[a-z][a-z0-9_]*)\Z")

    def test_characters_and_sizes(self):
        for name, text in self.texts.items():
            self.assertRegex(text, r"\A[ -~\n]*\Z", name)
            rows = text.split("\n")
            self.assertLessEqual(len(rows), 399, name)
            self.assertLessEqual(max(len(row) for row in rows), 120, name)
        for place, function in self.nodes(ast.FunctionDef):
            self.assertLessEqual(function.end_lineno - function.lineno + 1, 40, place)

    def test_parts_of_the_language(self):
        for place, node in self.nodes(ast.AST):
            self.assertIn(type(node).__name__, PARTS, place)

    def test_module_level(self):
        for name, tree in self.trees.items():
            for row in tree.body:
                plain = isinstance(row, (ast.ImportFrom, ast.FunctionDef, ast.ClassDef, ast.Assign))
                self.assertTrue(plain or is_docstring(row), f"{name}.py:{row.lineno}")
            bound = defined_in(tree) + [imported for _, imported in imports_of(tree)]
            self.assertEqual(len(set(bound)), len(bound), name)

    def test_imports(self):
        needs = {}
        for name, tree in self.trees.items():
            needs[name] = set()
            for module, imported in imports_of(tree):
                if (module, imported) in LIBRARY:
                    continue
                self.assertRegex(module, IMPORTED, name)
                source = IMPORTED.match(module).group(1)
                needs[name].add(source)
                self.assertIn(imported, defined_in(self.trees[source]), name)
            self.assertTrue(all(row.level == 0 for row in tree.body if isinstance(row, ast.ImportFrom)))
        self.assertEqual(needs["__init__"], set())
        while needs:
            free = [name for name, needed in needs.items() if not needed & set(needs)]
            self.assertTrue(free, f"files import from each other: {sorted(needs)}")
            for name in free:
                del needs[name]

    def test_builtins_and_names(self):
        for name, tree in self.trees.items():
            outer = defined_in(tree) + [imported for _, imported in imports_of(tree)]
            for function in [node for node in ast.walk(tree) if isinstance(node, ast.FunctionDef)]:
                bound = bound_in(function)
                for node in ast.walk(function):
                    if isinstance(node, ast.Name) and node.id not in bound + outer:
                        self.assertIn(node.id, BUILTINS, f"{name}.py:{node.lineno}")
                classes = [row.name for row in tree.body if isinstance(row, ast.ClassDef)]
                taken = classes + [imported for _, imported in imports_of(tree)]
                self.assertFalse(set(bound) & set(taken), f"{name}.py:{function.lineno}")
            for word in outer + [word for node in ast.walk(tree) if isinstance(node, ast.FunctionDef)
                                 for word in bound_in(node)]:
                self.assertNotIn(word, dir(builtins), name)
                self.assertNotIn(word, NO_NAMES, name)
                self.assertRegex(word, r"\A_?[A-Za-z][A-Za-z0-9_]*\Z|\A_\Z")

    def test_methods(self):
        own = [node.name for _, node in self.nodes(ast.FunctionDef)]
        for place, call in self.nodes(ast.Call):
            if isinstance(call.func, ast.Attribute):
                self.assertIn(call.func.attr, METHODS + own, place)

    def test_values(self):
        docstrings = [row.value for _, node in self.nodes(ast.Module, ast.FunctionDef, ast.ClassDef)
                      for row in node.body[:1] if is_docstring(row)]
        for place, constant in self.nodes(ast.Constant):
            self.assertNotIsInstance(constant.value, (float, complex), place)
            if isinstance(constant.value, str):
                self.assertNotIn(chr(37), constant.value, place)
            if isinstance(constant.value, str) and constant not in docstrings:
                self.assertFalse(set(re.findall(r"\w+", constant.value)) & set(NO_WORDS), place)
        for place, node in self.nodes(ast.Compare):
            if any(isinstance(sign, (ast.Is, ast.IsNot)) for sign in node.ops):
                self.assertIsInstance(node.comparators[-1], ast.Constant, place)

    def test_errors(self):
        for place, handler in self.nodes(ast.ExceptHandler):
            self.assertIsInstance(handler.type, ast.Name, place)
            self.assertIn(handler.type.id, defined_in(self.trees["errors"]), place)
        for place, node in self.nodes(ast.Raise):
            self.assertIsInstance(node.exc, ast.Call, place)
            self.assertIn(node.exc.func.id, defined_in(self.trees["errors"]), place)

    def test_decorators(self):
        in_classes = [row for _, node in self.nodes(ast.ClassDef) for row in node.body]
        for place, node in self.nodes(ast.FunctionDef, ast.ClassDef):
            names = [decorator.id for decorator in node.decorator_list]
            self.assertIn(names, [[], ["property"]], place)
            self.assertTrue(names == [] or node in in_classes, place)

    def test_classes(self):
        for place, node in self.nodes(ast.ClassDef):
            methods = [row.name for row in node.body if isinstance(row, ast.FunctionDef)]
            self.assertEqual(len(set(methods)), len(methods), place)
            kept = [target.attr for target in ast.walk(node)
                    if isinstance(target, ast.Attribute) and isinstance(target.ctx, ast.Store)]
            # L18: no name is a method and an attribute in one class.
            self.assertFalse(set(methods) & set(kept), place)
            special = [name for name in methods if name.startswith("__")]
            self.assertLessEqual(set(special), {"__init__", "__eq__", "__len__"}, place)

    def test_properties_change_nothing_but_their_own_lists(self):
        for place, node in self.nodes(ast.FunctionDef):
            if not node.decorator_list:
                continue
            own = [row.targets[0].id for row in node.body if isinstance(row, ast.Assign)
                   and isinstance(row.value, (ast.List, ast.ListComp))]
            for inner in ast.walk(node):
                if isinstance(inner, (ast.Attribute, ast.Subscript)):
                    self.assertIsInstance(inner.ctx, ast.Load, place)
                if isinstance(inner, ast.Attribute) and inner.attr in ("append", "pop"):
                    self.assertIn(inner.value.id, own, place)


if __name__ == "__main__":
    unittest.main()
