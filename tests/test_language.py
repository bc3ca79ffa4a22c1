"""Those rules of the language subset that can be read off the files of the package."""

import ast
import pathlib
import re
import unittest

PACKAGE = pathlib.Path(__file__).resolve().parent.parent / "onewish"
FILES = sorted(PACKAGE.rglob("*.py"))
BARRED = re.compile(
    r"\b(type|typing|typing_extensions|enum|Enum|IntEnum|StrEnum|Flag|IntFlag|Generic|Protocol|ABC|ABCMeta"
    r"|namedtuple|NamedTuple|TypedDict|TYPE_CHECKING|abstractmethod)\b|dataclass|overload|contextmanager"
)
BUILTINS = set(
    "len range enumerate zip min max sum abs sorted reversed int str bool list tuple dict set isinstance ord repr"
    " any all divmod Exception ValueError TypeError KeyError IndexError LookupError ZeroDivisionError"
    " ArithmeticError OverflowError RuntimeError NotImplementedError".split()
)
METHODS = set(
    "append clear copy count endswith extend find get index insert isalnum isalpha isdigit islower isspace isupper"
    " items join keys ljust lower lstrip partition pop remove replace reverse rfind rjust rpartition rsplit rstrip"
    " setdefault split splitlines startswith strip update upper values zfill bit_length".split()
)
AT_ONCE = ("range", "zip", "enumerate", "reversed")
OTHER_BUILTINS = set(dir(__builtins__) if not isinstance(__builtins__, dict) else __builtins__) - BUILTINS


class Language(unittest.TestCase):
    def test_the_folder_holds_python_files_only(self):
        self.assertIn(PACKAGE / "__init__.py", FILES)
        for path in PACKAGE.rglob("*"):
            if "__pycache__" not in path.parts:
                self.assertIn(path, FILES)

    def test_sizes_and_signs(self):
        for path in FILES:
            text = path.read_bytes().decode("ascii")
            with self.subTest(file=path.name):
                self.assertTrue(all(sign == "\n" or " " <= sign <= "~" for sign in text))
                self.assertLessEqual(len(text.splitlines()), 400)
                self.assertLessEqual(max(map(len, text.splitlines())), 120)
                self.assertIsNone(BARRED.search(text))

    def test_functions_are_short(self):
        for path, node in self.nodes(ast.FunctionDef):
            with self.subTest(file=path.name, function=node.name):
                self.assertLessEqual(node.end_lineno - node.lineno + 1, 40)

    def test_imports_are_of_the_package(self):
        for path, node in self.nodes((ast.Import, ast.ImportFrom)):
            with self.subTest(file=path.name, line=node.lineno):
                self.assertIsInstance(node, ast.ImportFrom)
                self.assertEqual(node.level, 0)
                self.assertTrue(node.module.startswith("onewish."))

    def test_imports_name_the_file_that_defines(self):
        for path, node in self.nodes(ast.ImportFrom):
            defined = self.defined_in(PACKAGE / (node.module.split(".")[1] + ".py"))
            for alias in node.names:
                with self.subTest(file=path.name, name=alias.name):
                    self.assertIn(alias.name, defined)

    def test_no_files_import_from_each_other(self):
        wanted = {path.stem: set() for path in FILES}
        for path, node in self.nodes(ast.ImportFrom):
            wanted[path.stem].add(node.module.split(".")[1])
        while wanted:
            free = [name for name in wanted if not wanted[name] & set(wanted)]
            self.assertTrue(free, sorted(wanted))
            for name in free:
                del wanted[name]

    def test_imported_names_have_one_meaning(self):
        for path in FILES:
            imported, bound, used = set(), set(), set()
            for node in ast.walk(ast.parse(path.read_text())):
                if isinstance(node, ast.ImportFrom):
                    imported.update(alias.name for alias in node.names)
                elif isinstance(node, ast.Name):
                    (bound if isinstance(node.ctx, ast.Store) else used).add(node.id)
                elif isinstance(node, ast.arg):
                    bound.add(node.arg)
                elif isinstance(node, (ast.FunctionDef, ast.ClassDef)):
                    bound.add(node.name)
            with self.subTest(file=path.name):
                self.assertEqual(imported & bound, set())
                self.assertEqual(imported - used, set())

    def test_what_is_iterated_at_once_is_not_stored(self):
        for path, node in self.nodes((ast.Assign, ast.Return)):
            if isinstance(node.value, ast.Call) and isinstance(node.value.func, ast.Name):
                with self.subTest(file=path.name, line=node.lineno):
                    self.assertNotIn(node.value.func.id, AT_ONCE)

    def test_methods(self):
        for path, node in self.nodes(ast.Attribute):
            with self.subTest(file=path.name, line=node.lineno, name=node.attr):
                self.assertTrue(node.attr in METHODS or self.is_own(node.attr))

    def test_no_name_is_a_method_and_an_attribute(self):
        methods, attributes = [], set()
        for path, node in self.nodes((ast.ClassDef, ast.Attribute)):
            if isinstance(node, ast.ClassDef):
                methods += [row.name for row in node.body if isinstance(row, ast.FunctionDef)]
            elif isinstance(node.ctx, ast.Store):
                attributes.add(node.attr)
        self.assertEqual(attributes & set(methods), set())
        # An attribute or a method of a built-in value's name would be taken for that one.
        for name in attributes | set(methods) - {"__init__"}:
            self.assertFalse(any(hasattr(kind, name) for kind in (str, int, list, dict, set, tuple, bytes)), name)

    def test_statements(self):
        barred = (ast.Global, ast.AsyncFunctionDef, ast.Await, ast.GeneratorExp, ast.Yield, ast.Try, ast.With)
        for path, node in self.nodes(barred):
            self.fail((path.name, node.lineno))

    def test_what_stands_at_module_level(self):
        for path in FILES:
            for node in ast.parse(path.read_text()).body:
                with self.subTest(file=path.name, line=node.lineno):
                    plain = (ast.ImportFrom, ast.FunctionDef, ast.ClassDef, ast.Assign)
                    docstring = isinstance(node, ast.Expr) and isinstance(node.value, ast.Constant)
                    self.assertTrue(docstring or isinstance(node, plain))
                    if isinstance(node, ast.Assign):
                        self.assertFalse(any(isinstance(one, (ast.Call, ast.ListComp)) for one in ast.walk(node)))

    def test_is_stands_beside_none_true_and_false(self):
        for path, node in self.nodes(ast.Compare):
            for sign, right in zip(node.ops, node.comparators):
                if isinstance(sign, (ast.Is, ast.IsNot)):
                    with self.subTest(file=path.name, line=node.lineno):
                        self.assertIsInstance(right, ast.Constant)
                        self.assertIn(right.value, (None, True, False))

    def test_no_floats(self):
        for path, node in self.nodes((ast.Constant, ast.Div)):
            with self.subTest(file=path.name):
                self.assertNotIsInstance(node, ast.Div)
                self.assertNotIsInstance(node.value, (float, complex))

    def test_names(self):
        for path, node in self.nodes((ast.Name, ast.arg)):
            name = node.id if isinstance(node, ast.Name) else node.arg
            with self.subTest(file=path.name, line=node.lineno, name=name):
                self.assertFalse(name.startswith("_"))
                self.assertNotIn(name, OTHER_BUILTINS)
                self.assertNotIn(name, ("register", "elements", "input"))
                if isinstance(node, ast.arg) or isinstance(node.ctx, ast.Store):
                    self.assertNotIn(name, BUILTINS)

    def defined_in(self, path):
        names = set()
        for node in ast.parse(path.read_text()).body:
            if isinstance(node, (ast.FunctionDef, ast.ClassDef)):
                names.add(node.name)
            elif isinstance(node, ast.Assign):
                names.update(target.id for target in node.targets)
        return names

    def is_own(self, name):
        """Whether a class of the package has a method, or assigns an attribute, of this name."""
        for path, node in self.nodes((ast.ClassDef, ast.Attribute)):
            if isinstance(node, ast.ClassDef):
                if any(isinstance(row, ast.FunctionDef) and row.name == name for row in node.body):
                    return True
            elif node.attr == name and isinstance(node.ctx, ast.Store):
                return True
        return False

    def nodes(self, kinds):
        for path in FILES:
            for node in ast.walk(ast.parse(path.read_text())):
                if isinstance(node, kinds):
                    yield path, node


if __name__ == "__main__":
    unittest.main()
