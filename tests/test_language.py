"""Those rules of ../shared/LANGUAGE.md that a short look at the package's files can tell."""

import ast
import builtins
import pathlib
import re
import unittest

PACKAGE = pathlib.Path(__file__).resolve().parent.parent / "notchledger"
FILES = sorted(PACKAGE.rglob("*.py"))
ALLOWED = set(
    "len range enumerate zip min max sum abs sorted reversed int str bool bytes list tuple dict set frozenset "
    "isinstance ord repr any all divmod iter next super property staticmethod classmethod Exception ValueError "
    "TypeError KeyError IndexError LookupError ZeroDivisionError ArithmeticError OverflowError RuntimeError "
    "NotImplementedError AttributeError StopIteration NotImplemented".split()
)
BARRED_WORDS = re.compile(
    r"\b(type|typing|typing_extensions|enum|Enum|IntEnum|StrEnum|Flag|IntFlag|Generic|Protocol|ABC|ABCMeta|"
    r"namedtuple|NamedTuple|TypedDict|TYPE_CHECKING|abstractmethod)\b|dataclass|overload|contextmanager"
)
# Of the methods of builtin values those that the package calls.
BUILTIN_METHODS = {"append", "get", "join", "partition", "pop", "split"}


def nodes(path, *kinds):
    return [node for node in ast.walk(ast.parse(path.read_text())) if isinstance(node, kinds)]


def bound_names(path):
    names = [node.id for node in nodes(path, ast.Name) if not isinstance(node.ctx, ast.Load)]
    names += [node.arg for node in nodes(path, ast.arg)]
    names += [node.name for node in nodes(path, ast.FunctionDef, ast.ClassDef)]
    return [name for name in names if name not in ("__init__", "__str__")]


def module_names(path):
    body = ast.parse(path.read_text()).body
    names = [node.name for node in body if isinstance(node, (ast.FunctionDef, ast.ClassDef))]
    return names + [node.targets[0].id for node in body if isinstance(node, ast.Assign)]


class Language(unittest.TestCase):
    def test_there_are_files(self):
        self.assertTrue(FILES)

    def test_l1_l14_files_and_characters(self):
        for path in PACKAGE.rglob("*"):
            if "__pycache__" not in path.parts:
                self.assertRegex(path.name, r"\A[a-z0-9_]+\.py\Z")
        for path in FILES:
            self.assertRegex(path.read_bytes().decode("utf-8"), r"\A[ -~\n]*\Z")

    def test_l2_l16_imports_name_the_file_that_defines(self):
        for path in FILES:
            self.assertEqual(nodes(path, ast.Import), [])
            for node in nodes(path, ast.ImportFrom):
                self.assertEqual(node.level, 0)
                package, module = node.module.split(".")
                self.assertEqual(package, PACKAGE.name)
                for alias in node.names:
                    self.assertIn(alias.name, module_names(PACKAGE / (module + ".py")))

    def test_l3_module_level(self):
        kinds = (ast.ImportFrom, ast.FunctionDef, ast.ClassDef, ast.Assign)
        for path in FILES:
            body = ast.parse(path.read_text()).body
            for node in body[1:]:
                self.assertIsInstance(node, kinds)
            self.assertIsInstance(body[0].value, ast.Constant)
            self.assertEqual(len(module_names(path)), len(set(module_names(path))))

    def test_l7_l20_l27_values_and_signs(self):
        for path in FILES:
            self.assertEqual(nodes(path, ast.Div), [])
            for node in nodes(path, ast.Constant):
                self.assertNotIsInstance(node.value, float)
                self.assertNotIn("%", str(node.value))
            for node in nodes(path, ast.BinOp):
                if isinstance(node.op, ast.Pow):
                    self.assertIsInstance(node.right, ast.Constant)
            for node in nodes(path, ast.Compare):
                for sign, right in zip(node.ops, node.comparators):
                    if isinstance(sign, (ast.Is, ast.IsNot)):
                        self.assertIn(repr(getattr(right, "value", "")), ("None", "True", "False"))

    def test_l8_l12_l15_names(self):
        for path in FILES:
            for node in nodes(path, ast.Name):
                if hasattr(builtins, node.id):
                    self.assertIn(node.id, ALLOWED)
            imported = [alias.name for node in nodes(path, ast.ImportFrom) for alias in node.names]
            for name in bound_names(path):
                self.assertFalse(hasattr(builtins, name), name)
                self.assertNotIn(name, imported)
                self.assertRegex(name, r"\A[A-Za-z][A-Za-z0-9_]*\Z")

    def test_l18_l26_methods_and_attributes(self):
        classes = [node for path in FILES for node in nodes(path, ast.ClassDef)]
        methods = [method.name for node in classes for method in node.body if isinstance(method, ast.FunctionDef)]
        reached = [node for path in FILES for node in nodes(path, ast.Attribute)]
        attributes = {node.attr for node in reached if isinstance(node.ctx, ast.Store)}
        self.assertTrue(attributes)
        self.assertFalse(attributes & set(methods))
        for worth in ("", 0, [], {}, set(), b""):
            self.assertFalse(attributes & set(dir(worth)))
            self.assertLessEqual(set(methods) & set(dir(worth)), {"__init__", "__str__"})
        for node in reached:
            self.assertIn(node.attr, attributes | set(methods) | BUILTIN_METHODS)

    def test_l23_iterated_at_once(self):
        for path in FILES:
            for node in nodes(path, ast.Assign, ast.Return):
                if isinstance(node.value, ast.Call):
                    called = getattr(node.value.func, "id", getattr(node.value.func, "attr", None))
                    self.assertNotIn(called, ("range", "zip", "enumerate", "reversed", "items", "keys", "values"))

    def test_l10_size(self):
        for path in FILES:
            lines = path.read_text().splitlines()
            self.assertLessEqual(len(lines), 400)
            self.assertLessEqual(max(len(line) for line in lines), 120)
            for node in nodes(path, ast.FunctionDef):
                self.assertLessEqual(node.end_lineno - node.lineno + 1, 40, node.name)

    def test_l17_barred_words(self):
        for path in FILES:
            self.assertIsNone(BARRED_WORDS.search(path.read_text()))


if __name__ == "__main__":
    unittest.main()
