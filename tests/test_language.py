"""What can be told at a glance of LANGUAGE.md's rules, over the files of the package."""

import ast
import builtins
import pathlib
import re
import unittest

PACKAGE = pathlib.Path(__file__).resolve().parent.parent / "mastword"
FILES = sorted(PACKAGE.glob("*.py"))
BARRED = (
    "type typing typing_extensions enum Enum IntEnum StrEnum Flag IntFlag Generic Protocol ABC ABCMeta namedtuple "
    "NamedTuple TypedDict TYPE_CHECKING abstractmethod"
).split()
BUILTINS = (
    "len range enumerate zip min max sum abs sorted reversed int str bool bytes list tuple dict set frozenset isinstance "
    "ord repr any all divmod iter next super property staticmethod classmethod Exception ValueError TypeError KeyError "
    "IndexError LookupError ZeroDivisionError ArithmeticError OverflowError RuntimeError NotImplementedError "
    "AttributeError StopIteration NotImplemented"
).split()


def nodes(path, *kinds):
    return [node for node in ast.walk(ast.parse(path.read_text())) if isinstance(node, kinds)]


class TestFiles(unittest.TestCase):
    def test_the_folder_has_python_files_only(self):
        others = [path.name for path in PACKAGE.iterdir() if path.suffix != ".py" and path.name != "__pycache__"]
        self.assertEqual(others, [])
        self.assertIn("__init__.py", [path.name for path in FILES])

    def test_characters_and_sizes(self):
        for path in FILES:
            text = path.read_text()
            self.assertIsNone(re.search(r"[^ -~\n]", text), path.name)
            self.assertLessEqual(len(text.splitlines()), 400, path.name)
            self.assertLessEqual(max(len(row) for row in text.splitlines()), 120, path.name)

    def test_functions_have_at_most_40_lines(self):
        for path in FILES:
            for node in nodes(path, ast.FunctionDef):
                self.assertLessEqual(node.end_lineno - node.lineno + 1, 40, (path.name, node.name))

    def test_barred_words(self):
        for path in FILES:
            words = set(re.findall(r"\w+", path.read_text()))
            self.assertEqual(words & set(BARRED), set(), path.name)


class TestNames(unittest.TestCase):
    def test_imports_are_from_the_package(self):
        for path in FILES:
            self.assertEqual(nodes(path, ast.Import), [], path.name)
            for node in nodes(path, ast.ImportFrom):
                self.assertEqual((node.level, node.module.split(".")[0]), (0, "mastword"), path.name)

    def test_only_listed_builtins(self):
        for path in FILES:
            used = {node.id for node in nodes(path, ast.Name)}
            self.assertEqual((used & set(dir(builtins))) - set(BUILTINS), set(), path.name)

    def test_no_builtin_is_given_another_meaning(self):
        for path in FILES:
            stored = {node.id for node in nodes(path, ast.Name) if not isinstance(node.ctx, ast.Load)}
            stored |= {node.arg for node in nodes(path, ast.arg)}
            self.assertEqual(stored & set(dir(builtins)), set(), path.name)
            self.assertEqual([name for name in stored if name.startswith("_")], [], path.name)

    def test_no_name_is_a_method_and_an_attribute(self):
        methods, attributes = set(), set()
        for path in FILES:
            for node in nodes(path, ast.ClassDef):
                methods |= {part.name for part in node.body if isinstance(part, ast.FunctionDef)}
            attributes |= {node.attr for node in nodes(path, ast.Attribute) if isinstance(node.ctx, ast.Store)}
        self.assertEqual(methods & attributes, set())


if __name__ == "__main__":
    unittest.main()
