"""The rules of the language subset that can be checked plainly, over the files of the package."""

import ast
import builtins
import pathlib
import re
import unittest

PACKAGE = pathlib.Path(__file__).resolve().parent.parent / "heardalike"
BUILTINS = set("""
    len range enumerate zip min max sum abs sorted reversed int str bool bytes list tuple dict set frozenset isinstance
    ord repr any all divmod iter next super property staticmethod classmethod object float NotImplemented Exception
    ValueError TypeError KeyError IndexError LookupError ZeroDivisionError ArithmeticError OverflowError RuntimeError
    NotImplementedError AttributeError StopIteration
""".split())
BARRED_WORDS = re.compile(
    r"\b(type|typing|typing_extensions|enum|Enum|IntEnum|StrEnum|Flag|IntFlag|Generic|Protocol|ABC|ABCMeta|namedtuple"
    r"|NamedTuple|TypedDict|TYPE_CHECKING|abstractmethod)\b|dataclass|overload|contextmanager"
)
METHODS = set("""
    append clear copy count endswith extend find get index insert isalnum isalpha isdigit islower isspace isupper items
    join keys ljust lower lstrip partition pop remove removeprefix removesuffix replace reverse rfind rjust rpartition
    rsplit rstrip setdefault split splitlines startswith strip update upper values zfill
""".split())
BARRED_NODES = (ast.Global, ast.AsyncFunctionDef, ast.AsyncFor, ast.AsyncWith, ast.Await, ast.Div, ast.Import)
DUNDERS = re.compile(r"__[a-z]+__\Z")


def files():
    return sorted(path for path in PACKAGE.iterdir() if path.name != "__pycache__")


def trees():
    return [(path.name, ast.parse(path.read_text())) for path in files()]


def nodes(kind):
    return [(name, node) for name, tree in trees() for node in ast.walk(tree) if isinstance(node, kind)]


def imports_of(tree):
    return [node for node in ast.walk(tree) if isinstance(node, ast.ImportFrom)]


def defined_in(tree):
    told = {node.name for node in tree.body if isinstance(node, (ast.FunctionDef, ast.ClassDef))}
    return told | {node.targets[0].id for node in tree.body if isinstance(node, ast.Assign)}


class Files(unittest.TestCase):
    def test_there_are_python_files_alone_with_plain_names(self):
        for path in files():
            self.assertTrue(path.is_file(), path)
            self.assertRegex(path.name, r"\A[a-z0-9_]+\.py\Z")
        self.assertIn("__init__.py", [path.name for path in files()])

    def test_sizes_and_signs(self):
        for path in files():
            text = path.read_bytes().decode("ascii")
            self.assertRegex(text, r"\A[ -~\n]*\Z", path.name)
            lines = text.splitlines()
            self.assertLessEqual(len(lines), 399, path.name)
            self.assertLessEqual(max(len(line) for line in lines), 120, path.name)
            self.assertIsNone(BARRED_WORDS.search(text), path.name)

    def test_functions_are_short(self):
        for name, node in nodes(ast.FunctionDef):
            self.assertLessEqual(node.end_lineno - node.lineno + 1, 40, (name, node.name))


class Imports(unittest.TestCase):
    def test_only_from_the_very_files_of_the_package(self):
        defined = {f"heardalike.{name[:-3]}": defined_in(tree) for name, tree in trees()}
        for name, node in nodes(ast.ImportFrom):
            self.assertEqual(node.level, 0, name)
            for alias in node.names:
                self.assertIn(alias.name, defined.get(node.module, ()), name)

    def test_no_two_files_import_from_each_other(self):
        needs = {f"heardalike.{name[:-3]}": {node.module for node in imports_of(tree)} for name, tree in trees()}
        while needs:
            free = [module for module, wanted in needs.items() if not wanted & set(needs)]
            self.assertTrue(free, needs)
            needs = {module: wanted for module, wanted in needs.items() if module not in free}


class Code(unittest.TestCase):
    def test_module_level(self):
        for name, tree in trees():
            self.assertIsNotNone(ast.get_docstring(tree), name)
            for node in tree.body[1:]:
                self.assertIsInstance(node, (ast.ImportFrom, ast.FunctionDef, ast.ClassDef, ast.Assign), name)
                if isinstance(node, ast.Assign):
                    self.assertEqual([type(target) for target in node.targets], [ast.Name], name)

    def test_barred_statements(self):
        for name, node in nodes(BARRED_NODES):
            self.fail((name, node))

    def test_no_generator_expressions(self):
        # Beside a class with its own ==, all that takes one takes a list instead.
        for name, node in nodes(ast.GeneratorExp):
            self.fail((name, node.lineno))

    def test_methods_of_builtin_values(self):
        own = {node.name for _, node in nodes(ast.FunctionDef)}
        for name, node in nodes(ast.Call):
            if isinstance(node.func, ast.Attribute) and node.func.attr not in own:
                self.assertIn(node.func.attr, METHODS, (name, node.lineno))

    def test_sets_are_not_kept(self):
        for name, node in nodes((ast.Assign, ast.Return)):
            self.assertNotIsInstance(node.value, (ast.Set, ast.SetComp), (name, node.lineno))

    def test_literals(self):
        for name, node in nodes(ast.Constant):
            self.assertNotIsInstance(node.value, (float, complex), name)
            if isinstance(node.value, (str, bytes)):
                self.assertNotIn("%", str(node.value), name)

    def test_is_only_with_none_and_truths(self):
        for name, node in nodes(ast.Compare):
            for sign, right in zip(node.ops, node.comparators):
                if isinstance(sign, (ast.Is, ast.IsNot)):
                    self.assertIsInstance(right, ast.Constant, name)

    def test_builtins(self):
        for name, node in nodes(ast.Name):
            if isinstance(node.ctx, ast.Load) and hasattr(builtins, node.id):
                self.assertIn(node.id, BUILTINS, name)
            else:
                self.assertFalse(hasattr(builtins, node.id), (name, node.id))

    def test_names(self):
        told = [(name, node.id) for name, node in nodes(ast.Name)]
        told += [(name, node.arg) for name, node in nodes(ast.arg)]
        told += [(name, node.attr) for name, node in nodes(ast.Attribute)]
        told += [(name, node.name) for name, node in nodes((ast.FunctionDef, ast.ClassDef))]
        for name, word in told:
            self.assertTrue(not word.startswith("_") or DUNDERS.match(word), (name, word))

    def test_no_name_is_a_method_in_one_class_and_an_attribute_in_another(self):
        methods = {node.name for _, kind in nodes(ast.ClassDef) for node in kind.body if isinstance(node, ast.FunctionDef)}
        for name, node in nodes(ast.Attribute):
            if isinstance(node.ctx, ast.Store):
                self.assertNotIn(node.attr, methods, (name, node.lineno))

    def test_no_local_name_is_that_of_a_class_an_import_or_a_function_of_its_file(self):
        for name, tree in trees():
            taken = {alias.name for node in imports_of(tree) for alias in node.names}
            taken |= {node.name for node in tree.body if isinstance(node, (ast.ClassDef, ast.FunctionDef))}
            for node in ast.walk(tree):
                if isinstance(node, ast.arg):
                    self.assertNotIn(node.arg, taken, (name, node.lineno))
                if isinstance(node, ast.Name) and isinstance(node.ctx, ast.Store):
                    self.assertNotIn(node.id, taken, (name, node.lineno))

    def test_only_own_errors_are_caught(self):
        own = {node.name for name, tree in trees() if name == "errors.py" for node in tree.body if isinstance(node, ast.ClassDef)}
        for name, node in nodes(ast.ExceptHandler):
            self.assertIsInstance(node.type, ast.Name, (name, node.lineno))
            self.assertIn(node.type.id, own, (name, node.lineno))

    def test_what_is_always_done_is_told_on_the_spot(self):
        for name, node in nodes(ast.Try):
            for last in node.finalbody:
                self.assertIsInstance(last, ast.Expr, (name, node.lineno))
                self.assertEqual(last.value.func.attr, "append", (name, node.lineno))

    def test_keywords_of_builtins(self):
        for name, node in nodes(ast.Call):
            if isinstance(node.func, ast.Name) and node.func.id in BUILTINS:
                allowed = {"sorted": ("key", "reverse"), "min": ("key", "default"), "max": ("key", "default")}.get(node.func.id, ())
                for keyword in node.keywords:
                    self.assertIn(keyword.arg, allowed, (name, node.lineno))

    def test_each_attribute_that_is_read_is_assigned_or_a_method(self):
        known = {node.name for _, node in nodes(ast.FunctionDef)} | METHODS
        known |= {node.attr for _, node in nodes(ast.Attribute) if isinstance(node.ctx, ast.Store)}
        for name, node in nodes(ast.Attribute):
            self.assertIn(node.attr, known, (name, node.lineno))

    def test_each_import_is_used(self):
        for name, tree in trees():
            used = {node.id for node in ast.walk(tree) if isinstance(node, ast.Name)}
            for node in imports_of(tree):
                for alias in node.names:
                    self.assertIn(alias.name, used, name)

    def test_comparing_and_measuring_change_nothing(self):
        for name, node in nodes(ast.FunctionDef):
            if node.name in ("__eq__", "__len__", "__str__", "__repr__"):
                self.assertIsInstance(node.body[-1], ast.Return, (name, node.name))
                for inner in ast.walk(node):
                    self.assertNotIsInstance(inner, (ast.Assign, ast.AugAssign, ast.Delete), (name, node.name))


if __name__ == "__main__":
    unittest.main()
