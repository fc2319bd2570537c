"""What can be told at a glance of LANGUAGE.md's rules, over the files of the package."""

import ast
import builtins
import pathlib
import re
import unittest

PACKAGE = pathlib.Path(__file__).resolve().parent.parent / "mastword"
FILES = sorted(PACKAGE.glob("*.py"))
BARRED = (
    "type typing typing_extensions enum Enum IntEnum StrEnum Flag IntFlag Generic Protocol ABC ABCMeta namedtuple "
    "NamedTuple TypedDict TYPE_CHECKING abstractmethod"
).split()
# The methods of builtin values that may be called: the first list of L25.
METHODS = (
    "append clear copy count endswith extend find get index insert isalnum isalpha isdigit islower isspace isupper items "
    "join keys ljust lower lstrip partition pop remove replace reverse rfind rjust rpartition rsplit rstrip setdefault "
    "split splitlines startswith strip update upper values zfill bit_length"
).split()
BUILTINS = (
    "len range enumerate zip min max sum abs sorted reversed int str bool bytes list tuple dict set frozenset isinstance "
    "ord repr any all divmod iter next super property staticmethod classmethod Exception ValueError TypeError KeyError "
    "IndexError LookupError ZeroDivisionError ArithmeticError OverflowError RuntimeError NotImplementedError "
    "AttributeError StopIteration NotImplemented"
).split()


def nodes(path, *kinds):
    return [node for node in ast.walk(ast.parse(path.read_text())) if isinstance(node, kinds)]


def imports(path):
    """The pairs (module, name) that a file imports."""
    return [(node.module, part.name) for node in nodes(path, ast.ImportFrom) for part in node.names]


def bound(path):
    """The names that a file binds at module level, but for its imports."""
    names = []
    for node in ast.parse(path.read_text()).body:
        if isinstance(node, (ast.FunctionDef, ast.ClassDef)):
            names.append(node.name)
        elif isinstance(node, ast.Assign):
            names.extend(target.id for target in node.targets)
    return names


def local_names(path):
    """The parameters, the names that functions assign, and those that patterns and handlers capture."""
    names = {node.arg for node in nodes(path, ast.arg)}
    names |= {node.name for node in nodes(path, ast.MatchAs, ast.MatchStar, ast.ExceptHandler) if node.name}
    for function in nodes(path, ast.FunctionDef):
        names |= {node.id for node in ast.walk(function) if isinstance(node, ast.Name) and isinstance(node.ctx, ast.Store)}
    return names


def own_methods():
    return {
        part.name for path in FILES for node in nodes(path, ast.ClassDef) for part in node.body
        if isinstance(part, ast.FunctionDef)
    }


def assigned_attributes():
    return {node.attr for path in FILES for node in nodes(path, ast.Attribute) if isinstance(node.ctx, ast.Store)}


class TestFiles(unittest.TestCase):
    def test_the_folder_has_python_files_only(self):
        others = [path.name for path in PACKAGE.iterdir() if path.suffix != ".py" and path.name != "__pycache__"]
        self.assertEqual(others, [])
        self.assertIn("__init__.py", [path.name for path in FILES])

    def test_characters_and_sizes(self):
        for path in FILES:
            text = path.read_text()
            self.assertIsNone(re.search(r"[^ -~\n]", text), path.name)
            self.assertLessEqual(len(text.splitlines()), 400, path.name)
            self.assertLessEqual(max(len(row) for row in text.splitlines()), 120, path.name)

    def test_functions_have_at_most_40_lines(self):
        for path in FILES:
            for node in nodes(path, ast.FunctionDef):
                self.assertLessEqual(node.end_lineno - node.lineno + 1, 40, (path.name, node.name))

    def test_barred_words(self):
        for path in FILES:
            words = set(re.findall(r"\w+", path.read_text()))
            self.assertEqual(words & set(BARRED), set(), path.name)


class TestNames(unittest.TestCase):
    def test_imports_are_from_the_package(self):
        for path in FILES:
            self.assertEqual(nodes(path, ast.Import), [], path.name)
            for node in nodes(path, ast.ImportFrom):
                self.assertEqual((node.level, node.module.split(".")[0]), (0, "mastword"), path.name)

    def test_only_listed_builtins(self):
        for path in FILES:
            used = {node.id for node in nodes(path, ast.Name)}
            self.assertEqual((used & set(dir(builtins))) - set(BUILTINS), set(), path.name)

    def test_no_builtin_is_given_another_meaning(self):
        for path in FILES:
            stored = {node.id for node in nodes(path, ast.Name) if not isinstance(node.ctx, ast.Load)}
            stored |= {node.arg for node in nodes(path, ast.arg)}
            self.assertEqual(stored & set(dir(builtins)), set(), path.name)
            self.assertEqual([name for name in stored if name.startswith("_")], [], path.name)

    def test_no_name_is_a_method_and_an_attribute(self):
        self.assertEqual(own_methods() & assigned_attributes(), set())

    def test_local_names_are_no_imports_and_no_classes(self):
        for path in FILES:
            barred = {name for module, name in imports(path)} | {node.name for node in nodes(path, ast.ClassDef)}
            self.assertEqual(local_names(path) & (barred | set(dir(builtins))), set(), path.name)

    def test_each_name_is_bound_once_and_imported_from_where_it_is_defined(self):
        for path in FILES:
            names = bound(path) + [name for module, name in imports(path)]
            self.assertEqual(sorted(names), sorted(set(names)), path.name)
            for module, name in imports(path):
                self.assertIn(name, bound(PACKAGE / (module.split(".")[1] + ".py")), (path.name, name))

    def test_what_is_imported_is_used(self):
        for path in FILES:
            used = {node.id for node in nodes(path, ast.Name)}
            self.assertEqual({name for module, name in imports(path)} - used, set(), path.name)

    def test_no_two_files_import_from_each_other(self):
        below = {path.stem: {module.split(".")[1] for module, name in imports(path)} for path in FILES}
        while below:
            free = [name for name in below if not below[name] & set(below)]
            self.assertNotEqual(free, [], below)
            below = {name: below[name] for name in below if name not in free}


class TestStatements(unittest.TestCase):
    def test_module_level(self):
        plain = (ast.FunctionDef, ast.ClassDef, ast.ImportFrom, ast.Assign)
        for path in FILES:
            head, *rest = ast.parse(path.read_text()).body
            self.assertIsInstance(head, ast.Expr, path.name)
            for node in rest:
                self.assertIsInstance(node, plain, path.name)

    def test_methods_that_are_called(self):
        for path in FILES:
            called = {node.func.attr for node in nodes(path, ast.Call) if isinstance(node.func, ast.Attribute)}
            self.assertEqual(called - own_methods() - set(METHODS), set(), path.name)

    def test_attributes_that_are_read_are_assigned_somewhere(self):
        for path in FILES:
            found = nodes(path, ast.Call, ast.Attribute)
            called = [node.func for node in found if isinstance(node, ast.Call)]
            read = {node.attr for node in found if isinstance(node, ast.Attribute) and node not in called}
            self.assertEqual(read - assigned_attributes(), set(), path.name)

    def test_errors_are_made_on_the_spot_and_caught_by_name(self):
        classes = bound(PACKAGE / "errors.py")
        for path in FILES:
            for node in nodes(path, ast.Raise):
                self.assertIsInstance(node.exc, ast.Call, path.name)
                self.assertIn(node.exc.func.id, classes, path.name)
            for node in nodes(path, ast.ExceptHandler):
                self.assertIn(node.type.id, classes, path.name)

    def test_is_stands_beside_none_alone(self):
        for path in FILES:
            for node in nodes(path, ast.Compare):
                for sign, other in zip(node.ops, node.comparators):
                    if isinstance(sign, (ast.Is, ast.IsNot)):
                        self.assertIsNone(other.value, path.name)

    def test_strings_and_signs(self):
        for path in FILES:
            for node in nodes(path, ast.Constant):
                self.assertIn(type(node.value), (str, int, bool, type(None)), path.name)
                self.assertNotIn("%", str(node.value), path.name)
            self.assertEqual(nodes(path, ast.Div, ast.Pow, ast.Set, ast.SetComp, ast.Lambda, ast.Global), [], path.name)


if __name__ == "__main__":
    unittest.main()
