"""Some of the rules of the language that the package is written in, as far as a walk over its files tells them."""

import ast
import builtins
import re
import unittest
from pathlib import Path

PACKAGE = Path(__file__).resolve().parent.parent / "ledgerloom"
LIBRARY = {"heapq", "math", "itertools", "collections"}
BUILTINS = set(
    "len range enumerate zip min max sum abs sorted reversed int str bool bytes list tuple dict set isinstance ord repr "
    "any all divmod pow map iter next ValueError TypeError KeyError IndexError LookupError ZeroDivisionError "
    "NotImplemented super".split()
)
METHODS = set(
    "append clear copy count endswith extend find get index insert isalnum isalpha isdigit islower isspace isupper items "
    "join keys ljust lower lstrip partition pop remove replace reverse rfind rjust rpartition rsplit rstrip setdefault "
    "split splitlines startswith strip update upper values zfill bit_length add discard".split()
)
WORDS = (
    "type typing enum Enum Generic Protocol ABC ABCMeta namedtuple NamedTuple TypedDict abstractmethod dataclass overload "
    "contextmanager mro elements open input law version_info eval exec globals locals vars dir chr"
).split()
AT_MODULE_LEVEL = (ast.ImportFrom, ast.FunctionDef, ast.ClassDef, ast.Assign, ast.Expr)
NEVER = (
    ast.Import, ast.AsyncFunctionDef, ast.AsyncFor, ast.AsyncWith, ast.Await, ast.Div, ast.MatMult, ast.Global,
    ast.AnnAssign,
)


def files():
    """The path, the text and the tree of each file of the package."""
    for path in sorted(PACKAGE.rglob("*.py")):
        text = path.read_bytes().decode("ascii")
        yield path, text, ast.parse(text)


def names_given(tree):
    """The names that a file gives a meaning, but not those of attributes and methods."""
    for part in ast.walk(tree):
        if isinstance(part, ast.Name) and isinstance(part.ctx, ast.Store):
            yield part.id
        if isinstance(part, ast.arg):
            yield part.arg
        if isinstance(part, ast.alias):
            yield part.asname or part.name
    for part in tree.body:
        if isinstance(part, (ast.FunctionDef, ast.ClassDef)):
            yield part.name


class LanguageTest(unittest.TestCase):
    def test_the_folder_holds_nothing_but_files_of_python(self):
        for path in PACKAGE.rglob("*"):
            if "__pycache__" not in path.parts:
                self.assertRegex(path.name, "^[a-z0-9_]+[.]py$")

    def test_characters_and_sizes(self):
        for path, text, tree in files():
            self.assertTrue(all(sign == "\n" or " " <= sign <= "~" for sign in text), path)
            lines = text.split("\n")
            self.assertLess(len(lines), 400, path)
            self.assertLessEqual(max(len(line) for line in lines), 120, path)
            for part in ast.walk(tree):
                if isinstance(part, ast.FunctionDef):
                    self.assertLessEqual(part.end_lineno - part.lineno + 1, 40, (path, part.name))

    def test_imports(self):
        for path, _, tree in files():
            for part in ast.walk(tree):
                if isinstance(part, ast.ImportFrom) and part.module not in LIBRARY:
                    self.assertEqual(part.level, 0)
                    folder, name = part.module.split(".")
                    self.assertEqual(folder, PACKAGE.name)
                    there = set(names_given(ast.parse((PACKAGE / f"{name}.py").read_text())))
                    self.assertLessEqual({alias.name for alias in part.names}, there, path)

    def test_each_import_is_used_and_its_name_means_nothing_else(self):
        for path, _, tree in files():
            imported = [alias.name for part in tree.body if isinstance(part, ast.ImportFrom) for alias in part.names]
            self.assertEqual(len(imported), len(set(imported)), path)
            read = {part.id for part in ast.walk(tree) if isinstance(part, ast.Name) and isinstance(part.ctx, ast.Load)}
            self.assertLessEqual(set(imported), read, path)
            for name in imported:
                self.assertEqual(list(names_given(tree)).count(name), 1, (path, name))

    def test_no_two_files_import_from_each_other(self):
        below = {}
        for path, _, tree in files():
            modules = [part.module for part in tree.body if isinstance(part, ast.ImportFrom)]
            below[path.stem] = {module.split(".")[1] for module in modules if module.startswith(PACKAGE.name)}
        while below:
            lowest = [name for name in below if not below[name] & set(below)]
            self.assertTrue(lowest, below)
            for name in lowest:
                del below[name]

    def test_what_goes_over_many_things_takes_a_list(self):
        # The package has a class with an __eq__: beside one, these take no generator.
        for path, _, tree in files():
            for part in ast.walk(tree):
                self.assertNotIsInstance(part, (ast.GeneratorExp, ast.Yield, ast.YieldFrom), path)
                if isinstance(part, ast.FunctionDef) and part.name == "__eq__":
                    first = part.body[0].value.values[0]
                    self.assertEqual((first.func.id, first.args[0].id), ("isinstance", "other"), path)

    def test_what_stands_at_module_level(self):
        for path, _, tree in files():
            for part in tree.body:
                self.assertIsInstance(part, AT_MODULE_LEVEL, path)
                if isinstance(part, ast.Expr):
                    self.assertIsInstance(part.value, ast.Constant, path)

    def test_what_stands_nowhere(self):
        for path, text, tree in files():
            for part in ast.walk(tree):
                self.assertNotIsInstance(part, NEVER, path)
                if isinstance(part, ast.BinOp) and isinstance(part.op, (ast.Pow, ast.Mod)):
                    self.assertIsInstance(part.right, ast.Constant, (path, part.lineno))
                if isinstance(part, ast.Constant):
                    self.assertNotIsInstance(part.value, (float, complex), path)
                    self.assertNotIn(chr(37), part.value if isinstance(part.value, str) else "", path)
                if isinstance(part, (ast.Name, ast.arg, ast.Attribute)):
                    name = getattr(part, "id", None) or getattr(part, "arg", None) or getattr(part, "attr", None)
                    self.assertNotIn(name, WORDS, path)
            self.assertNotIn("_wall", text)

    def test_builtins(self):
        for path, _, tree in files():
            for name in names_given(tree):
                self.assertFalse(hasattr(builtins, name), (path, name))
            for part in ast.walk(tree):
                if isinstance(part, ast.Name) and hasattr(builtins, part.id):
                    self.assertIn(part.id, BUILTINS, path)

    def test_names(self):
        for path, _, tree in files():
            for name in names_given(tree):
                self.assertTrue(name == "_" or re.fullmatch("_?[A-Za-z][A-Za-z0-9_]*", name), (path, name))
            read = [part.id for part in ast.walk(tree) if isinstance(part, ast.Name) and isinstance(part.ctx, ast.Load)]
            self.assertNotIn("_", read, path)

    def test_methods_and_attributes(self):
        own = set()
        for _, _, tree in files():
            for part in ast.walk(tree):
                if isinstance(part, ast.ClassDef):
                    own |= {inner.name for inner in part.body if isinstance(inner, ast.FunctionDef)}
                if isinstance(part, ast.Attribute) and isinstance(part.ctx, ast.Store):
                    own.add(part.attr)
        for path, _, tree in files():
            for part in ast.walk(tree):
                if isinstance(part, ast.Attribute):
                    self.assertIn(part.attr, METHODS | own, path)

    def test_is_stands_beside_none_true_and_false(self):
        for path, _, tree in files():
            for part in ast.walk(tree):
                if isinstance(part, ast.Compare) and isinstance(part.ops[0], (ast.Is, ast.IsNot)):
                    self.assertIsInstance(part.comparators[0], ast.Constant, (path, part.lineno))


if __name__ == "__main__":
    unittest.main()
