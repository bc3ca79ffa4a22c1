"""Those rules of the language subset that can be read off the files of the package."""

import ast
import pathlib
import re
import unittest

PACKAGE = pathlib.Path(__file__).resolve().parent.parent / "onewish"
FILES = sorted(PACKAGE.rglob("*.py"))
BARRED = re.compile(
    r"\b(type|typing|typing_extensions|enum|Enum|IntEnum|StrEnum|Flag|IntFlag|Generic|Protocol|ABC|ABCMeta"
    r"|namedtuple|NamedTuple|TypedDict|TYPE_CHECKING|abstractmethod)\b|dataclass|overload|contextmanager"
)
BUILTINS = set(
    "len range enumerate zip min max sum abs sorted reversed int str bool list tuple dict set isinstance ord repr"
    " any all divmod Exception ValueError TypeError KeyError IndexError LookupError ZeroDivisionError"
    " ArithmeticError OverflowError RuntimeError NotImplementedError".split()
)
OTHER_BUILTINS = set(dir(__builtins__) if not isinstance(__builtins__, dict) else __builtins__) - BUILTINS


class Language(unittest.TestCase):
    def test_the_folder_holds_python_files_only(self):
        self.assertIn(PACKAGE / "__init__.py", FILES)
        for path in PACKAGE.rglob("*"):
            if "__pycache__" not in path.parts:
                self.assertIn(path, FILES)

    def test_sizes_and_signs(self):
        for path in FILES:
            text = path.read_bytes().decode("ascii")
            with self.subTest(file=path.name):
                self.assertTrue(all(sign == "\n" or " " <= sign <= "~" for sign in text))
                self.assertLessEqual(len(text.splitlines()), 400)
                self.assertLessEqual(max(map(len, text.splitlines())), 120)
                self.assertIsNone(BARRED.search(text))

    def test_functions_are_short(self):
        for path, node in self.nodes(ast.FunctionDef):
            with self.subTest(file=path.name, function=node.name):
                self.assertLessEqual(node.end_lineno - node.lineno + 1, 40)

    def test_imports_are_of_the_package(self):
        for path, node in self.nodes((ast.Import, ast.ImportFrom)):
            with self.subTest(file=path.name, line=node.lineno):
                self.assertIsInstance(node, ast.ImportFrom)
                self.assertEqual(node.level, 0)
                self.assertTrue(node.module.startswith("onewish."))

    def test_no_floats(self):
        for path, node in self.nodes((ast.Constant, ast.Div)):
            with self.subTest(file=path.name):
                self.assertNotIsInstance(node, ast.Div)
                self.assertNotIsInstance(node.value, (float, complex))

    def test_names(self):
        for path, node in self.nodes((ast.Name, ast.arg)):
            name = node.id if isinstance(node, ast.Name) else node.arg
            with self.subTest(file=path.name, line=node.lineno, name=name):
                self.assertFalse(name.startswith("_"))
                self.assertNotIn(name, OTHER_BUILTINS)
                self.assertNotIn(name, ("register", "elements", "input"))
                if isinstance(node, ast.arg) or isinstance(node.ctx, ast.Store):
                    self.assertNotIn(name, BUILTINS)

    def nodes(self, kinds):
        for path in FILES:
            for node in ast.walk(ast.parse(path.read_text())):
                if isinstance(node, kinds):
                    yield path, node


if __name__ == "__main__":
    unittest.main()
