"""The rules of ../shared/LANGUAGE.md that can be checked by a short look at the package's files.

This is not all of them: what it lets by may still break a rule.
"""

import ast
import builtins
import re
import unittest
from functools import cache
from pathlib import Path

PACKAGE = Path(__file__).resolve().parent.parent / "ownrail"
BUILTINS = """
    len range enumerate zip min max sum abs sorted reversed int str bool bytes list tuple dict set frozenset
    isinstance ord repr any all divmod iter next Exception ValueError TypeError KeyError IndexError LookupError
    ZeroDivisionError ArithmeticError OverflowError RuntimeError NotImplementedError AttributeError StopIteration
    NotImplemented super property staticmethod classmethod object
""".split()
BARRED_WORDS = """
    type typing typing_extensions enum Enum IntEnum StrEnum Flag IntFlag Generic Protocol ABC ABCMeta namedtuple
    NamedTuple TypedDict TYPE_CHECKING abstractmethod
""".split()
BARRED_NAMES = "register mro elements open input version_info with_traceback add_note format format_map".split()
NOT_ALLOWED = (ast.Global, ast.AsyncFunctionDef, ast.AsyncFor, ast.AsyncWith, ast.Await, ast.Import, ast.Div)
MODULE_LEVEL = (ast.ImportFrom, ast.FunctionDef, ast.ClassDef, ast.Assign, ast.AnnAssign, ast.Expr)
METHODS = """
    append clear copy count endswith extend find get index insert isalnum isalpha isdigit islower isspace isupper items
    join keys ljust lower lstrip partition pop remove replace reverse rfind rjust rpartition rsplit rstrip setdefault
    split splitlines startswith strip update upper values zfill bit_length sort add discard
""".split()
SPECIAL = "__init__ __eq__ __repr__ __str__ __len__ __enter__ __exit__ __call__ __iter__".split()


@cache
def files():
    return sorted(PACKAGE.glob("*.py"))


@cache
def trees():
    return [(path, ast.parse(path.read_text())) for path in files()]


@cache
def nodes(kinds):
    return [(path, node) for path, tree in trees() for node in ast.walk(tree) if isinstance(node, kinds)]


def bound_in(path):
    """The names that a file itself binds at module level, imports left out."""
    names = []
    for row in ast.parse(path.read_text()).body:
        if isinstance(row, (ast.FunctionDef, ast.ClassDef)):
            names.append(row.name)
        elif isinstance(row, ast.Assign):
            names += [target.id for target in row.targets]
    return names


@cache
def own_methods():
    return {row.name for path, node in nodes(ast.ClassDef) for row in node.body if isinstance(row, ast.FunctionDef)}


@cache
def own_attributes():
    """The attributes that the package's classes assign."""
    return {node.attr for path, node in nodes(ast.Attribute) if isinstance(node.ctx, ast.Store)}


class Files(unittest.TestCase):
    def test_the_folder_holds_python_files_alone(self):
        self.assertTrue(files())
        for path in PACKAGE.iterdir():
            if path.name != "__pycache__":
                self.assertRegex(path.name, r"^([a-z][a-z0-9_]*|__init__|__main__)\.py$")

    def test_signs(self):
        for path in files():
            self.assertRegex(path.read_bytes(), rb"\A[\n -~]*\Z", path)

    def test_size(self):
        for path in files():
            rows = path.read_text().splitlines()
            self.assertLessEqual(len(rows), 400, path)
            self.assertLessEqual(max(map(len, rows)), 120, path)
        for path, node in nodes(ast.FunctionDef):
            self.assertLessEqual(node.end_lineno - node.lineno + 1, 40, (path, node.name))

    def test_barred_words(self):
        for path in files():
            words = set(re.findall(r"\w+", path.read_text()))
            self.assertEqual(words & set(BARRED_WORDS), set(), path)
            for part in ("dataclass", "overload", "contextmanager"):
                self.assertNotIn(part, path.read_text(), path)


class Rows(unittest.TestCase):
    def test_module_level(self):
        for path, tree in trees():
            for row in tree.body:
                self.assertIsInstance(row, MODULE_LEVEL, (path, row.lineno))
                if isinstance(row, ast.Expr):
                    self.assertIs(row, tree.body[0], (path, row.lineno))

    def test_each_module_level_name_is_bound_once(self):
        for path, tree in trees():
            names = bound_in(path)
            for row in tree.body:
                if isinstance(row, ast.ImportFrom):
                    names += [name.asname or name.name for name in row.names]
            self.assertEqual(len(names), len(set(names)), path)

    def test_no_row_that_is_not_allowed(self):
        for path, node in nodes(NOT_ALLOWED):
            self.fail((path, node))

    def test_imports_name_the_file_that_defines(self):
        for path, node in nodes(ast.ImportFrom):
            if node.module == "__future__":
                continue
            self.assertEqual(node.level, 0, path)
            self.assertRegex(node.module, r"^ownrail\.[a-z_]+$", path)
            defined = bound_in(PACKAGE / (node.module.split(".")[1] + ".py"))
            for name in node.names:
                self.assertIn(name.name, defined, path)

    def test_no_two_files_import_each_other(self):
        needs = {path.stem: set() for path in files()}
        for path, node in nodes(ast.ImportFrom):
            needs[path.stem].add(node.module.split(".")[-1])
        while needs:
            ready = [name for name in needs if not needs[name] & set(needs)]
            self.assertTrue(ready, needs)
            for name in ready:
                del needs[name]

    def test_is_beside_none_and_truths_alone(self):
        for path, node in nodes(ast.Compare):
            for sign, right in zip(node.ops, node.comparators):
                if isinstance(sign, (ast.Is, ast.IsNot)):
                    self.assertIn(ast.unparse(right), ("None", "True", "False"), (path, node.lineno))

    def test_no_float_and_no_percent_sign_in_a_text(self):
        for path, node in nodes(ast.Constant):
            self.assertNotIsInstance(node.value, (float, complex), (path, node.lineno))
            if isinstance(node.value, str):
                self.assertNotIn("%", node.value, (path, node.lineno))

    def test_a_bare_generator_is_not_handed_to_any_and_its_kin(self):
        # Ground has == and len, so these take lists alone.
        for path, node in nodes(ast.Call):
            if getattr(node.func, "id", "") in ("any", "all", "min", "max", "sum", "sorted"):
                for given in node.args:
                    self.assertNotIsInstance(given, ast.GeneratorExp, (path, node.lineno))

    def test_functions(self):
        for path, node in nodes(ast.FunctionDef):
            self.assertEqual(node.args.posonlyargs, [], (path, node.name))
            if node.name.startswith("_"):
                self.assertIn(node.name, SPECIAL, path)

    def test_errors_are_raised_on_the_spot(self):
        for path, node in nodes(ast.Raise):
            if node.exc is not None:
                self.assertIsInstance(node.exc, ast.Call, (path, node.lineno))
                self.assertRegex(ast.unparse(node.exc.func), r"^[A-Z][A-Za-z]+$", (path, node.lineno))

    def test_own_errors_alone_are_caught(self):
        for path, node in nodes(ast.ExceptHandler):
            caught = node.type.elts if isinstance(node.type, ast.Tuple) else [node.type]
            for error in caught:
                self.assertIn(ast.unparse(error), bound_in(PACKAGE / "errors.py"), (path, node.lineno))

    def test_comprehensions_stand_in_functions(self):
        for path, tree in trees():
            for row in tree.body:
                if not isinstance(row, (ast.FunctionDef, ast.ClassDef)):
                    for node in ast.walk(row):
                        self.assertNotIsInstance(node, (ast.ListComp, ast.DictComp, ast.SetComp, ast.Call), path)

    def test_what_must_be_iterated_at_once_is_not_stored(self):
        for path, node in nodes((ast.Assign, ast.Return)):
            if isinstance(node.value, ast.Call):
                name = ast.unparse(node.value.func).split(".")[-1]
                self.assertNotIn(name, "zip enumerate reversed range items keys values iter".split(), (path, node.lineno))


    def test_what_finally_may_do(self):
        for path, node in nodes(ast.Try):
            for row in node.finalbody:
                self.assertIsInstance(row, ast.Assign, (path, row.lineno))
                self.assertIsInstance(row.value, (ast.Constant, ast.Name, ast.Attribute), (path, row.lineno))

    def test_special_methods_change_nothing(self):
        for path, node in nodes(ast.FunctionDef):
            if node.name in ("__eq__", "__repr__", "__str__", "__len__"):
                [row] = node.body
                self.assertIsInstance(row, ast.Return, (path, node.lineno))
                if node.name == "__len__":
                    self.assertRegex(ast.unparse(row.value), r"^len\(", (path, node.lineno))

    def test_defaults_are_plain(self):
        for path, node in nodes((ast.FunctionDef, ast.Lambda)):
            for default in node.args.defaults + [worth for worth in node.args.kw_defaults if worth is not None]:
                for part in ast.walk(default):
                    self.assertIsInstance(part, (ast.Constant, ast.Name, ast.Tuple, ast.expr_context), (path, node.lineno))

    def test_no_sorting_in_place_and_no_power_by_a_name(self):
        for path, node in nodes(ast.Attribute):
            self.assertNotEqual(node.attr, "sort", (path, node.lineno))
        for path, node in nodes(ast.BinOp):
            if isinstance(node.op, ast.Pow):
                self.assertIsInstance(node.right, ast.Constant, (path, node.lineno))

    def test_keywords_of_builtins(self):
        listed = {"sorted": {"key", "reverse"}, "min": {"key", "default"}, "max": {"key", "default"}, "sum": {"start"},
                  "enumerate": {"start"}, "zip": {"strict"}}
        for path, node in nodes(ast.Call):
            if isinstance(node.func, ast.Name) and hasattr(builtins, node.func.id):
                given = {keyword.arg for keyword in node.keywords}
                self.assertLessEqual(given, listed.get(node.func.id, set()), (path, node.lineno))

    def test_sets_are_asked_for_their_len_alone(self):
        for path, tree in trees():
            asked = {id(node.args[0]) for node in ast.walk(tree) if isinstance(node, ast.Call) and ast.unparse(node.func) == "len"}
            for node in ast.walk(tree):
                if isinstance(node, (ast.Set, ast.SetComp)) or isinstance(node, ast.Call) and ast.unparse(node.func) == "set":
                    self.assertIn(id(node), asked, (path, node.lineno))

    def test_what_a_loop_goes_over_is_not_changed_in_it(self):
        changing = {"append", "clear", "extend", "insert", "pop", "remove", "reverse", "setdefault", "update"}
        for path, loop in nodes(ast.For):
            over = {ast.unparse(part) for part in ast.walk(loop.iter) if isinstance(part, (ast.Name, ast.Attribute))}
            for node in [part for row in loop.body for part in ast.walk(row)]:
                if isinstance(node, ast.Call) and isinstance(node.func, ast.Attribute) and node.func.attr in changing:
                    self.assertNotIn(ast.unparse(node.func.value), over, (path, node.lineno))
                if isinstance(node, ast.Subscript) and not isinstance(node.ctx, ast.Load):
                    self.assertNotIn(ast.unparse(node.value), over, (path, node.lineno))

    def test_strings_have_plain_escapes(self):
        for path in files():
            for escape in re.findall(r"\\(.)", path.read_text(), re.S):
                self.assertIn(escape, "nt\\'\"", path)


class Names(unittest.TestCase):
    def test_all_imports_are_used(self):
        for path, tree in trees():
            used = {node.id for node in ast.walk(tree) if isinstance(node, ast.Name)}
            for row in tree.body:
                if isinstance(row, ast.ImportFrom):
                    self.assertLessEqual({name.name for name in row.names}, used, path)

    def test_classes_are_called_or_asked_for_alone(self):
        known = {node.name for path, node in nodes(ast.ClassDef)}
        for path, tree in trees():
            fine = set()
            for node in ast.walk(tree):
                if isinstance(node, ast.Call):
                    fine.add(id(node.func))
                    if ast.unparse(node.func) == "isinstance":
                        fine |= {id(part) for part in ast.walk(node.args[1])}
                elif isinstance(node, ast.ClassDef):
                    fine |= {id(base) for base in node.bases}
                elif isinstance(node, ast.ExceptHandler):
                    fine |= {id(part) for part in ast.walk(node.type)}
            for node in ast.walk(tree):
                if isinstance(node, ast.Name) and node.id in known:
                    self.assertIn(id(node), fine, (path, node.lineno))

    def test_attributes_have_no_name_of_a_method_of_builtin_values(self):
        theirs = {name for kind in (str, int, list, dict, set, bytes, tuple) for name in dir(kind)}
        allowed = {"count", "index", "title", "find", "get", "join", "lower", "upper", "split", "strip", "copy", "add"}
        self.assertEqual(own_attributes() & (theirs - allowed), set())
        self.assertEqual({name for name in own_methods() if not name.startswith("__")} & theirs, set())

    def test_methods_that_are_called_are_listed_or_own(self):
        for path, node in nodes(ast.Call):
            if isinstance(node.func, ast.Attribute):
                self.assertIn(node.func.attr, own_methods() | set(METHODS), (path, node.lineno))

    def test_no_name_is_both_a_method_and_an_attribute(self):
        self.assertEqual(own_methods() & own_attributes(), set())

    def test_attributes_that_are_read_are_assigned(self):
        for path, tree in trees():
            called = {id(node.func) for node in ast.walk(tree) if isinstance(node, ast.Call)}
            for node in ast.walk(tree):
                if isinstance(node, ast.Attribute) and id(node) not in called:
                    self.assertIn(node.attr, own_attributes(), (path, node.lineno))

    def test_locals_have_no_name_of_a_class_or_an_import(self):
        for path, tree in trees():
            taken = {row.name for row in tree.body if isinstance(row, ast.ClassDef)}
            taken |= {name.asname or name.name for row in tree.body if isinstance(row, ast.ImportFrom) for name in row.names}
            for node in ast.walk(tree):
                if isinstance(node, ast.Name) and isinstance(node.ctx, ast.Store):
                    self.assertNotIn(node.id, taken, (path, node.lineno))
                if isinstance(node, ast.arg):
                    self.assertNotIn(node.arg, taken, (path, node.lineno))

    def test_names_begin_with_a_letter(self):
        for path, node in nodes((ast.Name, ast.arg, ast.Attribute)):
            name = getattr(node, "id", None) or getattr(node, "arg", None) or getattr(node, "attr", None)
            self.assertNotIn(name, BARRED_NAMES, (path, node.lineno))
            if name not in SPECIAL + ["__name__"]:
                self.assertRegex(name, r"^[A-Za-z][A-Za-z0-9_]*$", (path, node.lineno))

    def test_only_the_listed_builtins(self):
        theirs = vars(builtins)
        for path, node in nodes(ast.Name):
            if node.id in theirs:
                self.assertIn(node.id, BUILTINS, (path, node.lineno))
                self.assertIsInstance(node.ctx, ast.Load, (path, node.lineno))
        for path, node in nodes(ast.arg):
            self.assertNotIn(node.arg, theirs, (path, node.lineno))


if __name__ == "__main__":
    unittest.main()
