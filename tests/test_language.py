"""The rules of ../shared/LANGUAGE.md that a look at the text or the syntax tree can check."""

import ast
import builtins
import pathlib
import re
import unittest

from askshanded.crowds import WORD

PACKAGE = pathlib.Path(__file__).resolve().parent.parent / "askshanded"
FILES = sorted(PACKAGE.rglob("*.py"))
ALLOWED = set(
    "len range enumerate zip min max sum abs sorted reversed int str bool bytes list tuple dict set frozenset "
    "isinstance ord repr any all divmod pow getattr hasattr setattr iter next map super property staticmethod "
    "classmethod Exception ValueError TypeError KeyError IndexError LookupError ZeroDivisionError ArithmeticError "
    "OverflowError RuntimeError NotImplementedError AttributeError StopIteration NotImplemented".split()
)
LIBRARY = {"heapq", "math", "itertools", "collections", "__future__"}
BARRED = re.compile(
    r"\b(type|typing|typing_extensions|enum|Enum|IntEnum|StrEnum|Flag|IntFlag|Generic|Protocol|ABC|ABCMeta|"
    r"namedtuple|NamedTuple|TypedDict|TYPE_CHECKING|abstractmethod|register|mro|elements|open|input|law)\b"
    r"|dataclass|overload|contextmanager|\(type\)|Meta|metaclass="
)
METHODS = {
    "__init__", "__eq__", "__repr__", "__str__", "__len__", "__enter__", "__exit__", "__call__", "__iter__",
    "__lt__", "__le__", "__gt__", "__ge__", "__ne__", "__add__", "__iadd__", "__bool__", "__contains__",
    "__getitem__", "__setitem__",
}


def texts():
    return [(path, path.read_text(encoding="utf-8")) for path in FILES]


def nodes(*kinds):
    for path, text in texts():
        for node in ast.walk(ast.parse(text)):
            if isinstance(node, kinds):
                yield f"{path.name}:{getattr(node, 'lineno', 0)}", node


class LanguageTest(unittest.TestCase):
    def test_the_folder_has_python_files_alone(self):
        others = [path for path in PACKAGE.rglob("*") if path.suffix != ".py" and "__pycache__" not in path.parts]
        self.assertEqual(others, [])
        self.assertIn("__init__.py", [path.name for path in FILES])

    def test_files_and_lines(self):
        for path, text in texts():
            lines = text.split("\n")
            self.assertLessEqual(len(lines), 399, path.name)
            self.assertTrue(all(character == "\n" or " " <= character <= "~" for character in text), path.name)
            self.assertLessEqual(max(len(line) for line in lines), 120, path.name)

    def test_functions(self):
        for place, node in nodes(ast.FunctionDef):
            self.assertLessEqual(node.end_lineno - node.lineno + 1, 40, place)
            if node.name.startswith("__"):
                self.assertIn(node.name, METHODS, place)

    def test_imports(self):
        for place, node in nodes(ast.Import, ast.ImportFrom):
            self.assertIsInstance(node, ast.ImportFrom, place)
            self.assertEqual(node.level, 0, place)
            self.assertIn(node.module.split(".")[0], {"askshanded"} | LIBRARY, place)

    def test_builtins(self):
        for place, node in nodes(ast.Name):
            if isinstance(node.ctx, ast.Load) and hasattr(builtins, node.id):
                self.assertIn(node.id, ALLOWED, place)
            if not isinstance(node.ctx, ast.Load):
                self.assertFalse(hasattr(builtins, node.id), place)
        for place, node in nodes(ast.arg):
            self.assertFalse(hasattr(builtins, node.arg), place)

    def test_barred_words(self):
        for path, text in texts():
            self.assertIsNone(BARRED.search(text), path.name)

    def test_statements(self):
        for place, node in nodes(ast.Global, ast.AsyncFunctionDef, ast.Await, ast.AugAssign, ast.Lambda):
            self.fail(f"{place}: {type(node).__name__}")
        for place, node in nodes(ast.Constant):
            self.assertNotIsInstance(node.value, float, place)

    def test_a_kept_range_is_not_passed_on(self):
        for place, function in nodes(ast.FunctionDef):
            kept = {
                node.targets[0].id for node in ast.walk(function)
                if isinstance(node, ast.Assign) and isinstance(node.targets[0], ast.Name)
                and isinstance(node.value, ast.Call) and ast.unparse(node.value.func) == "range"
            }
            for call in [node for node in ast.walk(function) if isinstance(node, ast.Call)]:
                passed = {argument.id for argument in call.args if isinstance(argument, ast.Name)}
                if ast.unparse(call.func) not in ("list", "tuple", "len", "sum", "sorted", "enumerate", "zip"):
                    self.assertEqual(kept & passed, set(), place)

    def test_no_name_is_a_method_and_an_attribute(self):
        methods, attributes = set(), set()
        for _, node in nodes(ast.ClassDef):
            methods |= {part.name for part in node.body if isinstance(part, ast.FunctionDef)}
            attributes |= {part.attr for part in ast.walk(node)
                           if isinstance(part, ast.Attribute) and isinstance(part.ctx, ast.Store)}
        self.assertEqual(methods & attributes, set())

    def test_no_local_name_is_an_import_or_a_class_of_its_file(self):
        for path, text in texts():
            tree = ast.parse(text)
            bound = {name.name for node in tree.body if isinstance(node, ast.ImportFrom) for name in node.names}
            bound |= {node.name for node in tree.body if isinstance(node, ast.ClassDef)}
            stored = {node.id for node in ast.walk(tree) if isinstance(node, ast.Name) and isinstance(node.ctx, ast.Store)}
            stored |= {node.arg for node in ast.walk(tree) if isinstance(node, ast.arg)}
            self.assertEqual(bound & stored, set(), path.name)

    def test_strings(self):
        for place, node in nodes(ast.Constant):
            if isinstance(node.value, str):
                self.assertNotIn("%", node.value, place)
                self.assertFalse(node.value.endswith(("._", ".__")), place)

    def test_no_integer_has_more_than_900_digits(self):
        self.assertLess(len(str(1 << WORD)), 900)

    def test_sorted_takes_what_is_plainly_strings_or_numbers(self):
        for place, node in nodes(ast.Call):
            if isinstance(node.func, ast.Name) and node.func.id in ("sorted", "min", "max"):
                if len(node.args) == 2 and isinstance(node.args[0], ast.Constant):
                    continue
                self.assertIsInstance(node.args[0], ast.ListComp, place)
                self.assertIn(ast.unparse(node.args[0].elt).split("(")[0], ("str", "int", "len"), place)


if __name__ == "__main__":
    unittest.main()
