"""The form of the package's files, as far as it can be counted."""

import ast
import os
import re
import unittest
import warnings

FOLDER = os.path.join(os.path.dirname(os.path.dirname(os.path.abspath(__file__))), "leastblame")

BUILTINS = set(
    "len range enumerate zip min max sum abs sorted reversed int str bool bytes list tuple dict set frozenset isinstance "
    "ord repr any all divmod Exception ValueError KeyError IndexError LookupError ZeroDivisionError ArithmeticError "
    "OverflowError RuntimeError NotImplementedError".split())

BARRED = ("type|typing|typing_extensions|enum|Enum|IntEnum|StrEnum|Flag|IntFlag|Generic|Protocol|ABC|ABCMeta|namedtuple|"
          "NamedTuple|TypedDict|TYPE_CHECKING|abstractmethod")


def files():
    """The names of the package's files, and what they hold."""
    found = {}
    for name in sorted(os.listdir(FOLDER)):
        if name != "__pycache__":
            with open(os.path.join(FOLDER, name), encoding="utf-8", newline="") as file:
                found[name] = file.read()
    return found


class Form(unittest.TestCase):
    def test_there_are_only_python_files(self):
        self.assertIn("__init__.py", files())
        for name in files():
            self.assertRegex(name, r"\A[a-z_][a-z0-9_]*\.py\Z")

    def test_they_compile_without_warnings(self):
        for name, text in files().items():
            with warnings.catch_warnings():
                warnings.simplefilter("error")
                compile(text, name, "exec")

    def test_sizes_of_files_and_lines(self):
        for name, text in files().items():
            lines = text.split("\n")
            self.assertLessEqual(len(lines) - 1, 400, name)
            self.assertLessEqual(max(len(line) for line in lines), 120, name)
            self.assertTrue(text.endswith("\n"), name)

    def test_sizes_of_functions(self):
        for name, text in files().items():
            for node in ast.walk(ast.parse(text)):
                if isinstance(node, ast.FunctionDef):
                    self.assertLessEqual(node.end_lineno - node.lineno + 1, 40, (name, node.name))

    def test_signs(self):
        for name, text in files().items():
            self.assertEqual(re.findall(r"[^ -~\n]", text), [], name)

    def test_barred_words(self):
        for name, text in files().items():
            self.assertEqual(re.findall(r"\b(?:" + BARRED + r")\b|dataclass|overload|contextmanager", text), [], name)

    def test_imports(self):
        for name, text in files().items():
            for node in ast.walk(ast.parse(text)):
                self.assertNotIsInstance(node, ast.Import, name)
                if isinstance(node, ast.ImportFrom):
                    self.assertTrue(node.level == 0 and node.module.startswith("leastblame."), (name, node.module))

    def test_names_are_plain_and_no_builtin_is_bound(self):
        barred = set(dir(__builtins__) if not isinstance(__builtins__, dict) else __builtins__)
        for name, text in files().items():
            for node in ast.walk(ast.parse(text)):
                if isinstance(node, ast.Name) and isinstance(node.ctx, ast.Store):
                    self.assertNotIn(node.id, barred, name)
                    self.assertFalse(node.id.startswith("_"), (name, node.id))
                if isinstance(node, ast.arg):
                    self.assertNotIn(node.arg, barred, name)
                    self.assertFalse(node.arg.startswith("_"), (name, node.arg))
                if isinstance(node, ast.Name) and isinstance(node.ctx, ast.Load) and node.id in barred:
                    self.assertIn(node.id, BUILTINS, name)

    def test_all_and_their_kin_take_no_generator(self):
        for name, text in files().items():
            for node in ast.walk(ast.parse(text)):
                if isinstance(node, ast.Call) and isinstance(node.func, ast.Name):
                    if node.func.id in ("any", "all", "min", "max", "sum", "sorted"):
                        self.assertFalse(any(isinstance(told, ast.GeneratorExp) for told in node.args), name)


if __name__ == "__main__":
    unittest.main()
