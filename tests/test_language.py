"""The rules of ../shared/LANGUAGE.md that can be checked by a short look at the package's files.

This is not all of them: what it lets by may still break a rule.
"""

import ast
import re
import unittest
from pathlib import Path

PACKAGE = Path(__file__).resolve().parent.parent / "ownrail"
BUILTINS = """
    len range enumerate zip min max sum abs sorted reversed int str bool bytes list tuple dict set frozenset
    isinstance ord repr any all divmod iter next Exception ValueError TypeError KeyError IndexError LookupError
    ZeroDivisionError ArithmeticError OverflowError RuntimeError NotImplementedError AttributeError StopIteration
    NotImplemented super property staticmethod classmethod object
""".split()
BARRED_WORDS = """
    type typing typing_extensions enum Enum IntEnum StrEnum Flag IntFlag Generic Protocol ABC ABCMeta namedtuple
    NamedTuple TypedDict TYPE_CHECKING abstractmethod
""".split()
BARRED_NAMES = "register mro elements open input version_info with_traceback add_note format format_map".split()
NOT_ALLOWED = (ast.Global, ast.AsyncFunctionDef, ast.AsyncFor, ast.AsyncWith, ast.Await, ast.Import, ast.Div)
MODULE_LEVEL = (ast.ImportFrom, ast.FunctionDef, ast.ClassDef, ast.Assign, ast.AnnAssign, ast.Expr)
METHODS = """
    append clear copy count endswith extend find get index insert isalnum isalpha isdigit islower isspace isupper items
    join keys ljust lower lstrip partition pop remove replace reverse rfind rjust rpartition rsplit rstrip setdefault
    split splitlines startswith strip update upper values zfill bit_length sort add discard
""".split()
SPECIAL = "__init__ __eq__ __repr__ __str__ __len__ __enter__ __exit__ __call__ __iter__".split()


def files():
    return sorted(PACKAGE.glob("*.py"))


def trees():
    return [(path, ast.parse(path.read_text())) for path in files()]


def nodes(kinds):
    return [(path, node) for path, tree in trees() for node in ast.walk(tree) if isinstance(node, kinds)]


def bound_in(path):
    """The names that a file itself binds at module level, imports left out."""
    names = []
    for row in ast.parse(path.read_text()).body:
        if isinstance(row, (ast.FunctionDef, ast.ClassDef)):
            names.append(row.name)
        elif isinstance(row, ast.Assign):
            names += [target.id for target in row.targets]
    return names


def own_methods():
    return {row.name for path, node in nodes(ast.ClassDef) for row in node.body if isinstance(row, ast.FunctionDef)}


def own_attributes():
    """The attributes that the package's classes assign."""
    return {node.attr for path, node in nodes(ast.Attribute) if isinstance(node.ctx, ast.Store)}


class Files(unittest.TestCase):
    def test_the_folder_holds_python_files_alone(self):
        self.assertTrue(files())
        for path in PACKAGE.iterdir():
            if path.name != "__pycache__":
                self.assertRegex(path.name, r"^([a-z][a-z0-9_]*|__init__|__main__)\.py$")

    def test_signs(self):
        for path in files():
            self.assertRegex(path.read_bytes(), rb"\A[\n -~]*\Z", path)

    def test_size(self):
        for path in files():
            rows = path.read_text().splitlines()
            self.assertLessEqual(len(rows), 400, path)
            self.assertLessEqual(max(map(len, rows)), 120, path)
        for path, node in nodes(ast.FunctionDef):
            self.assertLessEqual(node.end_lineno - node.lineno + 1, 40, (path, node.name))

    def test_barred_words(self):
        for path in files():
            words = set(re.findall(r"\w+", path.read_text()))
            self.assertEqual(words & set(BARRED_WORDS), set(), path)
            for part in ("dataclass", "overload", "contextmanager"):
                self.assertNotIn(part, path.read_text(), path)


class Rows(unittest.TestCase):
    def test_module_level(self):
        for path, tree in trees():
            for row in tree.body:
                self.assertIsInstance(row, MODULE_LEVEL, (path, row.lineno))
                if isinstance(row, ast.Expr):
                    self.assertIs(row, tree.body[0], (path, row.lineno))

    def test_each_module_level_name_is_bound_once(self):
        for path, tree in trees():
            names = bound_in(path)
            for row in tree.body:
                if isinstance(row, ast.ImportFrom):
                    names += [name.asname or name.name for name in row.names]
            self.assertEqual(len(names), len(set(names)), path)

    def test_no_row_that_is_not_allowed(self):
        for path, node in nodes(NOT_ALLOWED):
            self.fail((path, node))

    def test_imports_name_the_file_that_defines(self):
        for path, node in nodes(ast.ImportFrom):
            if node.module == "__future__":
                continue
            self.assertEqual(node.level, 0, path)
            self.assertRegex(node.module, r"^ownrail\.[a-z_]+$", path)
            defined = bound_in(PACKAGE / (node.module.split(".")[1] + ".py"))
            for name in node.names:
                self.assertIn(name.name, defined, path)

    def test_no_two_files_import_each_other(self):
        needs = {path.stem: set() for path in files()}
        for path, node in nodes(ast.ImportFrom):
            needs[path.stem].add(node.module.split(".")[-1])
        while needs:
            ready = [name for name in needs if not needs[name] & set(needs)]
            self.assertTrue(ready, needs)
            for name in ready:
                del needs[name]

    def test_is_beside_none_and_truths_alone(self):
        for path, node in nodes(ast.Compare):
            for sign, right in zip(node.ops, node.comparators):
                if isinstance(sign, (ast.Is, ast.IsNot)):
                    self.assertIn(ast.unparse(right), ("None", "True", "False"), (path, node.lineno))

    def test_no_float_and_no_percent_sign_in_a_text(self):
        for path, node in nodes(ast.Constant):
            self.assertNotIsInstance(node.value, (float, complex), (path, node.lineno))
            if isinstance(node.value, str):
                self.assertNotIn("%", node.value, (path, node.lineno))

    def test_a_bare_generator_is_not_handed_to_any_and_its_kin(self):
        # A class with == and len comes into the package later; then these take lists alone.
        for path, node in nodes(ast.Call):
            if getattr(node.func, "id", "") in ("any", "all", "min", "max", "sum", "sorted"):
                for given in node.args:
                    self.assertNotIsInstance(given, ast.GeneratorExp, (path, node.lineno))

    def test_functions(self):
        for path, node in nodes(ast.FunctionDef):
            self.assertEqual(node.args.posonlyargs, [], (path, node.name))
            if node.name.startswith("_"):
                self.assertIn(node.name, SPECIAL, path)


    def test_errors_are_raised_on_the_spot(self):
        for path, node in nodes(ast.Raise):
            if node.exc is not None:
                self.assertIsInstance(node.exc, ast.Call, (path, node.lineno))
                self.assertRegex(ast.unparse(node.exc.func), r"^[A-Z][A-Za-z]+$", (path, node.lineno))

    def test_own_errors_alone_are_caught(self):
        for path, node in nodes(ast.ExceptHandler):
            self.assertIn(ast.unparse(node.type), bound_in(PACKAGE / "errors.py"), (path, node.lineno))

    def test_comprehensions_stand_in_functions(self):
        for path, tree in trees():
            for row in tree.body:
                if not isinstance(row, (ast.FunctionDef, ast.ClassDef)):
                    for node in ast.walk(row):
                        self.assertNotIsInstance(node, (ast.ListComp, ast.DictComp, ast.SetComp, ast.Call), path)

    def test_what_must_be_iterated_at_once_is_not_stored(self):
        for path, node in nodes((ast.Assign, ast.Return)):
            if isinstance(node.value, ast.Call):
                name = ast.unparse(node.value.func).split(".")[-1]
                self.assertNotIn(name, "zip enumerate reversed range items keys values iter".split(), (path, node.lineno))


class Names(unittest.TestCase):
    def test_methods_that_are_called_are_listed_or_own(self):
        for path, node in nodes(ast.Call):
            if isinstance(node.func, ast.Attribute):
                self.assertIn(node.func.attr, own_methods() | set(METHODS), (path, node.lineno))

    def test_no_name_is_both_a_method_and_an_attribute(self):
        self.assertEqual(own_methods() & own_attributes(), set())

    def test_attributes_that_are_read_are_assigned(self):
        for path, tree in trees():
            called = {id(node.func) for node in ast.walk(tree) if isinstance(node, ast.Call)}
            for node in ast.walk(tree):
                if isinstance(node, ast.Attribute) and id(node) not in called:
                    self.assertIn(node.attr, own_attributes(), (path, node.lineno))

    def test_locals_have_no_name_of_a_class_or_an_import(self):
        for path, tree in trees():
            taken = {row.name for row in tree.body if isinstance(row, ast.ClassDef)}
            taken |= {name.asname or name.name for row in tree.body if isinstance(row, ast.ImportFrom) for name in row.names}
            for node in ast.walk(tree):
                if isinstance(node, ast.Name) and isinstance(node.ctx, ast.Store):
                    self.assertNotIn(node.id, taken, (path, node.lineno))
                if isinstance(node, ast.arg):
                    self.assertNotIn(node.arg, taken, (path, node.lineno))

    def test_names_begin_with_a_letter(self):
        for path, node in nodes((ast.Name, ast.arg, ast.Attribute)):
            name = getattr(node, "id", None) or getattr(node, "arg", None) or getattr(node, "attr", None)
            self.assertNotIn(name, BARRED_NAMES, (path, node.lineno))
            if name not in SPECIAL + ["__name__"]:
                self.assertRegex(name, r"^[A-Za-z][A-Za-z0-9_]*$", (path, node.lineno))

    def test_only_the_listed_builtins(self):
        theirs = __builtins__ if isinstance(__builtins__, dict) else vars(__builtins__)
        for path, node in nodes(ast.Name):
            if node.id in theirs:
                self.assertIn(node.id, BUILTINS, (path, node.lineno))
                self.assertIsInstance(node.ctx, ast.Load, (path, node.lineno))
        for path, node in nodes(ast.arg):
            self.assertNotIn(node.arg, theirs, (path, node.lineno))


if __name__ == "__main__":
    unittest.main()
