"""Those rules of the language that can be read off the files without much ado."""

import ast
import builtins
import re
import unittest
import warnings
from pathlib import Path

FOLDER = Path(__file__).resolve().parent.parent / "squaremates"
FILES = sorted(FOLDER.glob("*.py"))
BARRED_WORDS = {
    "type", "typing", "typing_extensions", "enum", "Enum", "IntEnum", "StrEnum", "Flag", "IntFlag", "Generic",
    "Protocol", "ABC", "ABCMeta", "namedtuple", "NamedTuple", "TypedDict", "TYPE_CHECKING", "abstractmethod",
}
BARRED_PARTS = ("dataclass", "overload", "contextmanager")
BARRED_NAMES = {"register", "mro", "elements", "open", "input", "version_info", "with_traceback", "add_note"}
ALLOWED_BUILTINS = {
    "len", "range", "enumerate", "zip", "min", "max", "sum", "abs", "sorted", "reversed", "int", "str", "bool",
    "list", "tuple", "dict", "set", "isinstance", "ord", "repr", "any", "all", "divmod", "ValueError",
    "KeyError", "IndexError", "LookupError", "ZeroDivisionError", "super", "property", "staticmethod",
    "classmethod", "TypeError", "NotImplemented", "Exception",
}
BARRED_NODES = (
    ast.Global, ast.AsyncFunctionDef, ast.AsyncFor, ast.AsyncWith, ast.Await, ast.Import, ast.Div,
    ast.MatchClass, ast.MatchMapping,
)


class Language(unittest.TestCase):
    def each(self):
        self.assertTrue(FILES)
        for file in FILES:
            text = file.read_text(encoding="utf-8")
            yield file.name, text, ast.parse(text)

    def test_folder_has_plain_files_alone(self):
        for path in FOLDER.iterdir():
            if path.name != "__pycache__":
                self.assertRegex(path.name, r"^[a-z0-9_]+\.py$")
        self.assertIn("__init__.py", [file.name for file in FILES])

    def test_characters_and_sizes(self):
        for name, text, tree in self.each():
            self.assertTrue(all(sign == "\n" or " " <= sign <= "~" for sign in text), name)
            lines = text.splitlines()
            self.assertLessEqual(len(lines), 400, name)
            self.assertLessEqual(max(len(line) for line in lines), 120, name)
            for node in ast.walk(tree):
                if isinstance(node, ast.FunctionDef):
                    self.assertLessEqual(node.end_lineno - node.lineno + 1, 40, (name, node.name))

    def test_no_warnings(self):
        for name, text, tree in self.each():
            with warnings.catch_warnings():
                warnings.simplefilter("error")
                compile(text, name, "exec")

    def test_words(self):
        for name, text, tree in self.each():
            self.assertFalse(set(re.findall(r"\w+", text)) & BARRED_WORDS, name)
            self.assertFalse([part for part in BARRED_PARTS if part in text], name)

    def test_statements_and_imports(self):
        for name, text, tree in self.each():
            for node in ast.walk(tree):
                self.assertNotIsInstance(node, BARRED_NODES, name)
                if isinstance(node, ast.Constant):
                    self.assertNotIsInstance(node.value, (float, complex), name)
                if isinstance(node, ast.ImportFrom):
                    self.assertTrue(node.module.startswith("squaremates."), name)
                    self.assertEqual(node.level, 0, name)
                    self.assertIn(node, tree.body, name)

    def test_names(self):
        for name, text, tree in self.each():
            imported = {alias.name for node in ast.walk(tree) if isinstance(node, ast.ImportFrom)
                        for alias in node.names}
            for node in ast.walk(tree):
                bound = []
                if isinstance(node, ast.arg):
                    bound = [node.arg]
                elif isinstance(node, ast.Name) and not isinstance(node.ctx, ast.Load):
                    bound = [node.id]
                elif isinstance(node, ast.Name) and hasattr(builtins, node.id):
                    self.assertIn(node.id, ALLOWED_BUILTINS, name)
                for word in bound:
                    self.assertFalse(word.startswith("_"), (name, word))
                    self.assertFalse(hasattr(builtins, word), (name, word))
                    self.assertNotIn(word, BARRED_NAMES | imported, name)
