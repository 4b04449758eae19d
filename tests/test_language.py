"""Those rules of the language that can be seen by a look at the files of the package."""

import ast
import builtins
import pathlib
import re
import unittest

FOLDER = pathlib.Path(__file__).resolve().parent.parent / "crosslocks"
FILES = sorted(FOLDER.rglob("*.py"))
BUILTINS = set("""
    len range enumerate zip min max sum abs sorted reversed int str bool bytes list tuple dict set frozenset
    isinstance ord repr any all divmod iter next super property staticmethod classmethod object float print
    Exception ValueError TypeError KeyError IndexError LookupError ZeroDivisionError ArithmeticError OverflowError
    RuntimeError NotImplementedError AttributeError StopIteration NotImplemented __name__""".split())
BARRED = re.compile(
    r"\b(type|typing|typing_extensions|enum|Enum|IntEnum|StrEnum|Flag|IntFlag|Generic|Protocol|ABC|ABCMeta|namedtuple"
    r"|NamedTuple|TypedDict|TYPE_CHECKING|abstractmethod)\b|dataclass|overload|contextmanager")


class Language(unittest.TestCase):
    def trees(self):
        for file in FILES:
            with self.subTest(file.name):
                yield file, ast.parse(file.read_text())

    def test_the_folder_has_files_of_the_package_alone(self):
        self.assertIn(FOLDER / "__init__.py", FILES)
        for path in FOLDER.iterdir():
            if path.name != "__pycache__":
                self.assertRegex(path.name, r"^(__init__|__main__|[a-z][a-z0-9_]*)\.py$")

    def test_signs_and_sizes(self):
        for file in FILES:
            rows = file.read_text(encoding="utf-8").split("\n")
            with self.subTest(file.name):
                self.assertLessEqual(len(rows), 401)
                for row in rows:
                    self.assertRegex(row, r"^[ -~]{0,120}\Z")

    def test_functions_are_small(self):
        for file, tree in self.trees():
            for node in ast.walk(tree):
                if isinstance(node, ast.FunctionDef):
                    self.assertLessEqual(node.end_lineno - node.lineno + 1, 40, node.name)

    def test_barred_words(self):
        for file in FILES:
            with self.subTest(file.name):
                self.assertIsNone(BARRED.search(file.read_text()))

    def test_imports_from_the_package_alone(self):
        for file, tree in self.trees():
            for node in ast.walk(tree):
                if isinstance(node, ast.Import):
                    self.assertEqual((file.name, [name.name for name in node.names]), ("__main__.py", ["sys"]))
                if isinstance(node, ast.ImportFrom):
                    self.assertEqual(node.level, 0)
                    self.assertRegex(node.module, r"^(crosslocks\..*|__future__)$")

    def test_builtins(self):
        for file, tree in self.trees():
            for node in ast.walk(tree):
                if isinstance(node, ast.Name) and hasattr(builtins, node.id):
                    self.assertIn(node.id, BUILTINS)

    def test_no_names_with_an_underscore_ahead_and_no_floats(self):
        for file, tree in self.trees():
            for node in ast.walk(tree):
                if isinstance(node, ast.Name):
                    self.assertRegex(node.id, r"^([A-Za-z]|__)")
                self.assertFalse(isinstance(node, ast.Constant) and isinstance(node.value, (float, complex)))
                self.assertNotIsInstance(node, (ast.Div, ast.Global))

    def test_is_stands_beside_none_true_and_false_alone(self):
        for file, tree in self.trees():
            for node in ast.walk(tree):
                if isinstance(node, ast.Compare):
                    for sign, right in zip(node.ops, node.comparators):
                        if isinstance(sign, (ast.Is, ast.IsNot)):
                            self.assertIn(getattr(right, "value", "another"), (None, True, False))

    def test_no_name_within_a_function_means_something_else(self):
        for file, tree in self.trees():
            outer = {name.name for node in tree.body if isinstance(node, ast.ImportFrom) for name in node.names}
            outer |= {node.name for node in tree.body if isinstance(node, ast.ClassDef)}
            for node in ast.walk(tree):
                within = [node.id] if isinstance(node, ast.Name) and isinstance(node.ctx, ast.Store) else []
                within += [node.arg] if isinstance(node, ast.arg) else []
                for name in within:
                    self.assertNotIn(name, outer)
                    self.assertFalse(hasattr(builtins, name), name)

    def test_no_two_files_import_from_each_other(self):
        imported = {}
        for file, tree in self.trees():
            found = [node.module for node in ast.walk(tree) if isinstance(node, ast.ImportFrom)]
            imported["crosslocks." + file.stem] = [name for name in found if name.startswith("crosslocks.")]
        while imported:
            done = [name for name in imported if not any(other in imported for other in imported[name])]
            self.assertTrue(done, imported)
            imported = {name: imported[name] for name in imported if name not in done}

    def test_what_has_lists_alone_beside_a_class_that_compares(self):
        for file, tree in self.trees():
            for node in ast.walk(tree):
                self.assertNotIsInstance(node, ast.GeneratorExp)
                if isinstance(node, ast.Attribute):
                    self.assertNotEqual(node.attr, "sort")

    def test_no_name_is_a_method_and_an_attribute(self):
        methods, assigned, read = set(), set(), set()
        for file, tree in self.trees():
            for node in ast.walk(tree):
                if isinstance(node, ast.ClassDef):
                    methods |= {part.name for part in node.body if isinstance(part, ast.FunctionDef)}
                if isinstance(node, ast.Attribute):
                    (assigned if isinstance(node.ctx, ast.Store) else read).add(node.attr)
        self.assertIn("canal", methods)
        self.assertIn("at", assigned)
        self.assertFalse(methods & assigned)
        builtin = set(dir(str)) | set(dir(list)) | set(dir(dict)) | set(dir(int)) | set(dir(set)) | set(dir(bytes))
        self.assertFalse((methods | assigned) & builtin - {"__init__", "__eq__", "__len__", "__repr__"})
        self.assertFalse(read - methods - assigned - builtin)

    def test_methods_are_few_and_a_class_stands_at_the_top(self):
        for file, tree in self.trees():
            classes = [node for node in ast.walk(tree) if isinstance(node, ast.ClassDef)]
            self.assertEqual(classes, [node for node in tree.body if isinstance(node, ast.ClassDef)])
            for node in classes:
                self.assertFalse(node.decorator_list)
                for part in node.body:
                    if isinstance(part, ast.FunctionDef) and part.name.startswith("__"):
                        self.assertIn(part.name, ("__init__", "__eq__", "__len__", "__repr__"))

    def test_only_own_errors_are_caught(self):
        for file, tree in self.trees():
            imported = {name.name for node in tree.body if isinstance(node, ast.ImportFrom) for name in node.names}
            for node in ast.walk(tree):
                if isinstance(node, ast.ExceptHandler):
                    self.assertIn(node.type.id, imported)

    def test_each_method_of_the_interface_stands_in_its_class(self):
        tree = ast.parse((FOLDER / "keep.py").read_text())
        body = [node for node in tree.body if isinstance(node, ast.ClassDef) and node.name == "Keep"][0].body
        found = {node.name for node in body if isinstance(node, ast.FunctionDef)}
        self.assertLessEqual(set("""
            go row fill drain turn dig undo canal standing deeds hands almanac paid went as_of twin log
            __init__ __eq__ __len__ __repr__""".split()), found)


if __name__ == "__main__":
    unittest.main()
