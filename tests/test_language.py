"""The package keeps to its small part of Python, as far as a test can see it."""

import ast
import builtins
import pathlib
import re
import unittest

PACKAGE = pathlib.Path(__file__).resolve().parent.parent / "trackedtext"

STATEMENTS = (ast.Assign, ast.AugAssign, ast.If, ast.While, ast.For, ast.Return, ast.Break, ast.Continue, ast.Pass,
              ast.Raise, ast.Try, ast.Expr, ast.FunctionDef, ast.ClassDef, ast.ImportFrom)
NOT_USED = (ast.GeneratorExp, ast.SetComp, ast.DictComp, ast.NamedExpr, ast.Starred, ast.Await, ast.Yield,
            ast.YieldFrom, ast.Div, ast.MatMult)
OWN_NAMES = set("""len range enumerate zip min max sum abs sorted reversed int str bool list tuple dict set frozenset
    isinstance ord repr any all divmod Exception ValueError TypeError KeyError IndexError LookupError
    ZeroDivisionError ArithmeticError OverflowError RuntimeError NotImplementedError AttributeError
    StopIteration""".split())
METHODS = set("""append clear copy count endswith extend find get index insert isalnum isalpha isdigit islower isspace
    isupper items join keys ljust lower lstrip partition pop remove replace reverse rfind rjust rpartition rsplit
    rstrip setdefault split splitlines startswith strip update upper values zfill bit_length""".split())
WORDS = ("type typing typing_extensions enum Enum IntEnum StrEnum Flag IntFlag Generic Protocol ABC ABCMeta namedtuple "
         "NamedTuple TypedDict TYPE_CHECKING abstractmethod").split()
PYTHON_KINDS = (str, int, list, dict, set, bytes, tuple)


def files():
    return sorted(PACKAGE.rglob("*.py"))


class LanguageTest(unittest.TestCase):
    def each_node(self):
        for path in files():
            for node in ast.walk(ast.parse(path.read_text())):
                yield path, node, f"{path.name}:{getattr(node, 'lineno', 0)}"

    def test_nothing_but_plainly_named_files(self):
        names = [path.name for path in PACKAGE.rglob("*") if "__pycache__" not in str(path)]
        self.assertIn("__init__.py", names)
        for file_name in names:
            self.assertRegex(file_name, r"^([a-z][a-z0-9_]*|__init__|__main__)\.py$")
            if not file_name.startswith("__"):
                self.assertFalse(hasattr(builtins, file_name[:-3]), file_name)

    def test_signs_and_size(self):
        for path in files():
            text = path.read_text()
            rows = text.split("\n")
            self.assertTrue(all(sign == "\n" or " " <= sign <= "~" for sign in text), path)
            self.assertLessEqual(len(rows), 400, path)
            self.assertLessEqual(max(len(row) for row in rows), 120, path)

    def test_functions_are_short(self):
        for path, node, at in self.each_node():
            if isinstance(node, ast.FunctionDef):
                self.assertLessEqual(node.end_lineno - node.lineno + 1, 40, at)
                arguments = node.args
                self.assertFalse(arguments.vararg or arguments.kwarg or arguments.kwonlyargs, at)
                self.assertFalse(node.decorator_list, at)

    def test_words_that_stand_nowhere(self):
        for path in files():
            found = set(re.findall(r"\w+", path.read_text())) & set(WORDS)
            self.assertFalse(found, path)
            self.assertNotRegex(path.read_text(), "dataclass|overload|contextmanager")

    def test_statements(self):
        for path, node, at in self.each_node():
            self.assertNotIsInstance(node, NOT_USED, at)
            if isinstance(node, ast.stmt):
                self.assertIsInstance(node, STATEMENTS, at)
            if isinstance(node, ast.Assign):
                self.assertEqual(len(node.targets), 1, at)
                self.assertNotIsInstance(node.targets[0], (ast.Tuple, ast.List), at)
            if isinstance(node, (ast.For, ast.While)):
                self.assertFalse(node.orelse, at)
            if isinstance(node, ast.Constant):
                self.assertIsInstance(node.value, (int, str, type(None)), at)

    def test_bare_expressions_are_calls_or_a_file_s_docstring(self):
        for path in files():
            tree = ast.parse(path.read_text())
            for node in ast.walk(tree):
                if isinstance(node, ast.Expr) and node is not tree.body[0]:
                    self.assertIsInstance(node.value, ast.Call, f"{path.name}:{node.lineno}")

    def test_imports(self):
        for path, node, at in self.each_node():
            if isinstance(node, ast.ImportFrom):
                self.assertEqual(node.level, 0, at)
                self.assertTrue(node.module.startswith("trackedtext."), at)
                home = ast.parse((PACKAGE / (node.module.split(".")[1] + ".py")).read_text())
                defined = {part.name for part in home.body if isinstance(part, (ast.FunctionDef, ast.ClassDef))}
                defined |= {part.targets[0].id for part in home.body if isinstance(part, ast.Assign)}
                for alias in node.names:
                    self.assertIn(alias.name, defined, at)
                    self.assertIsNone(alias.asname, at)

    def test_names(self):
        for path, node, at in self.each_node():
            if isinstance(node, ast.Name) and hasattr(builtins, node.id):
                self.assertIn(node.id, OWN_NAMES, at)
                self.assertIsInstance(node.ctx, ast.Load, at)
            if isinstance(node, ast.Name):
                self.assertFalse(node.id.startswith("_"), at)
            if isinstance(node, ast.arg):
                self.assertFalse(hasattr(builtins, node.arg) or node.arg.startswith("_"), at)
                self.assertIsNone(node.annotation, at)

    def test_locals_are_not_called_like_an_import_or_a_class(self):
        for path in files():
            tree = ast.parse(path.read_text())
            taken = {alias.name for node in tree.body if isinstance(node, ast.ImportFrom) for alias in node.names}
            taken |= {node.name for node in tree.body if isinstance(node, ast.ClassDef)}
            for node in ast.walk(tree):
                if isinstance(node, ast.arg):
                    self.assertNotIn(node.arg, taken, path)
                if isinstance(node, ast.Name) and isinstance(node.ctx, ast.Store):
                    self.assertNotIn(node.id, taken, path)

    def test_methods_and_values(self):
        for path, node, at in self.each_node():
            if isinstance(node, ast.Attribute) and any(hasattr(kind, node.attr) for kind in PYTHON_KINDS):
                self.assertIn(node.attr, METHODS, at)
                self.assertIsInstance(node.ctx, ast.Load, at)
            if isinstance(node, ast.Compare) and any(isinstance(op, (ast.Is, ast.IsNot)) for op in node.ops):
                self.assertIsInstance(node.comparators[0], ast.Constant, at)

    def test_a_file_s_top_holds_plain_values(self):
        for path in files():
            names = []
            for node in ast.parse(path.read_text()).body:
                if isinstance(node, ast.Assign):
                    ast.literal_eval(node.value)
                    names.append(node.targets[0].id)
                if isinstance(node, (ast.FunctionDef, ast.ClassDef)):
                    names.append(node.name)
            self.assertEqual(len(names), len(set(names)), path)
